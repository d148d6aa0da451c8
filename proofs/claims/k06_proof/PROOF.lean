import PyProof.Rows.All
import Wide.All
import OpenK.AllK
import Wide.FinOn
import HandS.ForMost
import HandS.Exc
import HandS.ExcCtx
import HandS.ExcField
import HandS.ExcIs
import HandS.IsInst
import HandS.HotCalls
import HandS.Wide
import HandS.Style
import KE.KExcIs
import HandS.Evl
import HandS.Conv
import PyProof.LongRange
import HandS.TupAny
import HandS.TupMul
import HandS.TupLe
import HandS.StrMore
import HandS.StrSplit
import HandS.FStr
import HandS.Text
import HandS.Iter
import PyProof.StrBlock2
import PySem.Challenge.RW_sumtalk_k06_words_split_and_named
set_option Elab.async false
set_option linter.all false
set_option maxRecDepth 100000
set_option maxHeartbeats 4000000
/-! an own error with one field, value: what the written part says of its class, and its making -/
namespace PySem
namespace Lowvalue
open PySem.W PySem.Calls PyProof.Rows PySem.HandSPX
def iA (p1 p2 : Pos) : Arguments := { posonlyargs := [], args := [{ arg := "self", annotation := none, pos := p1 }, { arg := "value", annotation := none, pos := p2 }], vararg := none, kwonlyargs := [], kw_defaults := [], kwarg := none, defaults := [] }
def iB (q1 q2 q3 q4 : Pos) : List Stmt := [.Assign [.Attribute (.Name "self" q1) "value" q2] (.Name "value" q3) q4]
def iS : Scope := { kind := .function, names := [(PySem.Str.ofString "self", .local), (PySem.Str.ofString "value", .local)], isGenerator := false, isCoroutine := false, more := [] }
/-- the class x at C, its __init__ (qn) at fI -/
structure LowTxt (K : Frag) (mg : Str → Option Value) (x qn : Str) (C fI : Addr) : Prop where
  g : mg x = some (.ref C)
  cls : ∃ nm q N bs bm sn sub ab col dd k0 k1 k2 k3 k5, K.lookup C = some (excClassObj nm q C N bs bm true sn sub ab col dd k0 k1 k2 k3 k5 "ValueError.__new__") ∧ refsVE bm = true
  sa : findIn K (.ref C) "__setattr__" = some (some (.builtin "object.__setattr__"))
  noN : findIn K (.ref C) "value" = some none
  iC : findIn K (.ref C) "__init__" = some (some (.ref fI))
  tC : typeIn K (.ref fI) = some (.type "function")
  kC : keepIn K (.ref C) = true
  exC : subIn K (.ref C) (.type "BaseException") = some true
  tyC : typeIn K (.ref C) = some (.type "type")
  fn : ∃ (oc : Value) (od : Option Addr) (kV doc pm : Value) (an : Option Addr) (cdv ct : Value) (osl : Array (Option Value)) (p1 p2 q1 q2 q3 q4 : Pos),
    K.lookup fI = some ⟨oc, od, .func (fnOf "__init__" qn (iA p1 p2) (iB q1 q2 q3 q4) iS .none kV doc pm an cdv ct), osl⟩ ∧ codeIn K cdv qn = true
theorem one_size (v : Value) : [v].length ≤ sizeLine := by
  rw [sizeLine_eq]
  exact (by decide : 1 ≤ 16777216)
theorem ldC {M : Model} {s : Shared} {name : Str} {scope : Scope} {L a : Addr} {cd : Value} {m : Str → Option Value} {x : Str} {pos : Pos} {v : Value} {Q : Value → Shared → Prop} {A : Around} {E : Value → Shared → Prop} (hn : s.heap.Ns L m) (hv : m x = some v) (h : Q v s)
    (hk : scope.kind = .function := by rfl) (hl : (envOfC name scope L a cd).kindOf x = some .local := by rfl) (hd : (x == ("__debug__" : Str)) = false := by decide) :
    wpAny M A (eval (.Name x pos) (envOfC name scope L a cd)) Q E s := wpAny_Name (wpAny_loadName_local hk hl hn hv h) hd
/-- what __init__ leaves of a fresh exception at x -/
structure InitEnd (h h' : Heap) (x C dx t1 : Addr) (v : Value) : Prop where
  keep : ∀ b o, b ≠ x → h.get? b = some o → h'.get? b = some o
  obj : h'.get? x = some { cls := .ref C, dict := some dx, data := .fields #[.ref t1, .none, .none, .none, .bool false, .none] }
  dbig : h.objs.size ≤ dx
  dne : dx ≠ x
  ns : h'.Ns1 dx (fun y => if y = "value" then some v else none)
/-- a made one -/
structure OwnMade (h h' : Heap) (e C d : Addr) (v : Value) : Prop where
  keep : ∀ b o, h.get? b = some o → h'.get? b = some o
  new : h.objs.size ≤ e
  obj : ∃ oe vs, h'.get? e = some oe ∧ oe.cls = .ref C ∧ oe.dict = some d ∧ oe.data = .fields vs ∧ vs[1]? = some .none ∧ vs[2]? = some .none
  dbig : h.objs.size ≤ d
  dne : d ≠ e
  ns : h'.Ns1 d (fun y => if y = "value" then some v else none)
section
variable {prog : Program} {w : World} {A : Around} {E : Value → Shared → Prop} {R : Result → Shared → Prop} {s : Shared} {K : Frag} {mg : Str → Option Value} {C fI : Addr} {xn qn : Str}
theorem low_init (T : LowTxt K mg xn qn C fI) {x t0 : Addr} {v : Value} (X : K.In s.heap) (hlim : s.heap.NoLimit) (hx : s.heap.get? x = some (excO C t0)) (hnx : K.lookup x = none) (hroom : A.depth < recursionLimit)
    (hq : ∀ h' tk dx, InitEnd s.heap h' x C dx t0 v → R (.ok (.ret .none)) { s with heap := h', toks := tk }) :
    codeAny (model prog w) A (.call (.ref fI) ⟨[.ref x, v], []⟩) R s := by
  obtain ⟨oc, od, kV, doc, pm, an, cdv, ct, osl, p1, p2, q1, q2, q3, q4, ho, hcd⟩ := T.fn
  obtain ⟨nm, q, N, bs, bm, sn, sub, ab, col, dd, k0, k1, k2, k3, k5, hC, hbm⟩ := T.cls
  have hcl : clsIn K C = some { name := nm, bases := bs, mro := .ref C :: bm, ns := N, qualname := q, hasDict := true, slotNames := sn, subclasses := sub, abstract := ab, collection := col, hasDel := false } := by unfold clsIn; rw [hC] <;> rfl
  refine Att.call_fn (binds := [("self", .ref x), ("value", v)]) X hlim ho hcd hroom (BindsTo.of_eq (by first | rfl | with_unfolding_all rfl)) (by first | rfl | decide | with_unfolding_all rfl) (fun s₁ IC => ?_) rfl rfl rfl
  obtain ⟨h₁, tk₁, rfl⟩ := IC.toInCall.same
  have k : ∀ b o, s.heap.get? b = some o → h₁.get? b = some o := IC.toInCall.keep
  have hn := IC.toInCall.ns
  have hxL : s.heap.objs.size ≠ x := Nat.ne_of_gt (Heap.lt_size hx)
  have X₁ : K.In h₁ := X.keeps k
  have hx₁ := k _ _ hx
  -- self.value = value
  show wpAny _ _ (execs _ _) _ _ _
  refine wpAny_execs_cons (plainObj_wpAny_Assign_Attribute ?_)
  refine ldC (v := v) hn (by first | rfl | with_unfolding_all rfl | kernel_rfl) (ldC (v := .ref x) hn (by first | rfl | with_unfolding_all rfl | kernel_rfl) ?_)
  refine set_plain X₁ (ox := excO C t0) (od := none) ⟨hx₁, rfl, rfl, trivial⟩ T.sa ?_
  refine exc_osa X₁ hx₁ hcl (show refsVE (.ref C :: bm) = true from hbm) rfl T.noN (fun h₃ tk₃ dx k₃ dn dne hx₃ hn₃ => ?_)
  show wpAny _ _ (execs _ _) _ _ _
  have z : s.heap.objs.size < h₁.objs.size := hn.lt
  exact wpAny_execs_nil (hq h₃ tk₃ dx ⟨fun b o hb e => k₃ b o hb (k b o e), hx₃, Nat.le_of_lt (Nat.lt_of_lt_of_le z dn), dne, hn₃⟩)
theorem low_made (T : LowTxt K mg xn qn C fI) {v : Value} (X : K.In s.heap) (hlim : s.heap.NoLimit) (hroom : A.depth + 1 < recursionLimit)
    (hq : ∀ h' tk e d, OwnMade s.heap h' e C d v → R (.ok (.ret (.ref e))) { s with heap := h', toks := tk }) :
    codeAny (model prog w) A (.call (.ref C) ⟨[v], []⟩) R s := by
  obtain ⟨nm, q, N, bs, bm, sn, sub, ab, col, dd, k0, k1, k2, k3, k5, hC, hbm⟩ := T.cls
  obtain ⟨hp, g, dr, tk, os⟩ := s
  have k : ∀ b o, hp.get? b = some o → ((hp.push (kdv_tup [v])).push (excO C hp.objs.size)).get? b = some o := fun b o e => Heap.get?_push_of_some _ (Heap.get?_push_of_some _ e)
  have hget : ((hp.push (kdv_tup [v])).push (excO C hp.objs.size)).get? (hp.objs.size + 1) = some (excO C hp.objs.size) := by heap_get
  have hnx : K.lookup (hp.objs.size + 1) = none := by
    cases e : K.lookup (hp.objs.size + 1) with
    | none => rfl
    | some o =>
      have z : hp.get? (hp.objs.size + 1) = some o := X _ _ e
      exact absurd (Nat.lt_of_succ_lt (Heap.lt_size z)) (Nat.lt_irrefl _)
  refine call_own F.excBase_ValueError (fun X => refsVE_contains X bm hbm) (X _ _ hC) (looks_findIn X T.iC) (fun self => bind_fn X self T.tC) (one_size v) ?_
  refine low_init (s := ⟨(hp.push (kdv_tup [v])).push (excO C hp.objs.size), g, dr, tk, os⟩) T (X.keeps k) (hlim.keeps k) hget hnx ?_ fun h' tk' dx ⟨k', hx, dn, dne, hns⟩ => ?_
  · show A.depth + 1 < recursionLimit
    exact hroom
  · have old : ∀ b o, hp.get? b = some o → h'.get? b = some o := fun b o e => k' b o (Nat.ne_of_lt (Nat.lt_succ_of_lt (Heap.lt_size e))) (k b o e)
    have z : hp.objs.size + 1 + 1 ≤ dx := by
      first
        | (simpa only [Heap.size_push] using dn)
        | exact dn
        | (have q := dn; rw [Heap.size_push, Heap.size_push] at q; exact q)
    exact ⟨rfl, hq h' tk' (hp.objs.size + 1) dx ⟨old, Nat.le_succ _, ⟨_, _, hx, rfl, rfl, rfl, rfl, rfl⟩, Nat.le_trans (Nat.le_trans (Nat.le_succ _) (Nat.le_succ _)) z, dne, hns⟩⟩
end
end Lowvalue
end PySem
namespace L2
open PySem PySem.Spec PyProof.Rows
theorem relO_value {v : V} {v' : Value} (r : RelV v v') (f : Str) : RelO (List.lookup f [(("value" : Str), v)]) (if f = "value" then some v' else none) := by
  by_cases hw : f = "value"
  · subst hw
    rw [if_pos rfl]
    have q : List.lookup ("value" : Str) [(("value" : Str), v)] = some v := by simp [List.lookup]
    rw [q]
    exact r
  · rw [if_neg hw]
    have qw : (f == ("value" : Str)) = false := by simpa using hw
    have q2 : List.lookup f [(("value" : Str), v)] = none := by simp [List.lookup, qw]
    rw [q2]
    trivial
section
variable {X : Cx} {C fI : Addr} {xn qn : Str}
/-- Low(e) -/
def tMkvalue (C : Addr) (ta : TA) : St → Hp → XK → Prop := fun σ H Q => ta σ H fun vs H1 => ∃ v, vs = [v] ∧ ∀ d, H1 d = none → Q (.ref C) (some d) (upd H1 d (.xd [(("value" : Str), v)]))
theorem pmk_value {a : Expr} {ta : TA} {p pos : Pos} {k : Nat} (T : PySem.Lowvalue.LowTxt X.K X.mg xn qn C fI) (hr : Room k X.A) (ha : PA X [a] ta) (hg : Gl X xn) (hdb : (xn == ("__debug__" : Str)) = false := by decide)
    (he : starEach (a :: []) X.env = (false, eval a X.env) :: starEach [] X.env := by rfl) (hpl : (backTo pos (starEach [] X.env)).any (·.1) = false := by rfl) :
    L2N.PMk X (.Call (.Name xn p) [a] [] pos) (tMkvalue C ta) := by
  intro pins s σ H Q I h
  refine wpAny_Call_Name_kw (ld_glob I hg T.g ?_ hdb)
  refine PySem.W.callWith_K (h₀ := X.base) I.ok.mod.kin T.kC (thn (ha.run pos pins s σ H _ I h) fun us s1 hh => ?_) he hpl
  obtain ⟨vs, H1, I1, r1, v, ev, q1⟩ := hh
  subst ev
  refine ⟨I1.kIn, ?_⟩
  cases r1 with
  | cons rv rn =>
    rename_i v' us'
    cases rn
    show wpAny _ _ (call (.ref C) [v']) _ _ _
    have hlim := I1.nolimit
    obtain ⟨hp, g, dr, tk, os⟩ := s1
    refine wpAny_call (PySem.Lowvalue.low_made T I1.kIn hlim (by have := hr.dp; omega) fun h' tk' e d M => ?_)
    show L2N.MkP X pins σ Q (.ref e) ⟨h', g, dr, tk', os⟩
    obtain ⟨oe, fv, hoe, hc, hd, hdat, h1, h2⟩ := M.obj
    have hns := M.ns
    obtain ⟨G', g1, g2⟩ := restrict h' fun b => decide (b ≠ e)
    have gk : ∀ b, b ≠ e → G'.get? b = h'.get? b := fun b hb => g1 b (decide_eq_true hb)
    have ge : G'.get? e = none := g2 e (by simp)
    have old : ∀ b o, hp.get? b = some o → G'.get? b = some o := fun b o q => (gk b (Nat.ne_of_lt (Nat.lt_of_lt_of_le (Heap.lt_size q) M.new))).trans (M.keep b o q)
    have ob : ObjOk X.prog X.w (upd H1 d (.xd [(("value" : Str), v)])) G' d (.xd [(("value" : Str), v)]) :=
      ⟨_, hns.at (fun o q => (gk d M.dne).trans q), fun f => relO_value rv f⟩
    have J : Inv X pins σ (upd H1 d (.xd [(("value" : Str), v)])) ⟨G', g, dr, tk', os⟩ := I1.laid (t' := tk') old M.dbig ob
    refine ⟨e, oe, fv, ⟨G', g, dr, tk', os⟩, _, .ref C, some d, rfl, J, fun b o q => ?_, ge, hoe, ⟨hc, hd, fun vs z => by rw [hdat] at z; cases z; exact h2⟩, hdat, h1, ?_, rfl, I1.bare, raises_own T.exC T.tyC, q1 d (I1.hok.fresh M.dbig)⟩
    · by_cases hb : b = e
      · have q' : G'.get? b = some o := q
        rw [hb, ge] at q'; cases q'
      · exact (gk b hb).symm.trans q
    · rw [upd_ne (Ne.symm M.dne)]
      exact I1.hok.fresh M.new
end
end L2
namespace Vb
open PySem PySem.Spec PyProof.Rows L2
section
variable {P : Program} {w : World} {K : PySem.W.Frag} {mg : Str → Option Value} {base : Heap}
/-- a def that may raise, its exceptions' context told -/
theorem okN {x qual : Str} {st : Stmt} {f : Addr} {fd : FuncData} {N ps : List Str} {k : Nat} {sp : Sp} (F : Fun K x qual st f fd) (S : FnScope N ps (defScope st)) (len : ∀ vs H Q E, sp vs H Q E → vs.length = ps.length)
    (hbody : ∀ (cdv : Value) (A : Around) (outer : List Env) (s : Shared) (H : Hp) (vs : List V) (Q : VK) (E : XK), Room k (A.deeper (envOfC qual (defScope st) s.heap.objs.size f cdv)) → sp vs H Q E →
      ∃ t, PSs (cxOf (L2N.CX P w) P w K mg base N qual (defScope st) f cdv A outer s H E) (defBody st) t ∧ t (Ends.mk (fun _ H' => Q .non H') Q (fun _ _ => False) (fun _ _ => False)) (start N vs) H) : FnOk P w K mg base (L2N.CX P w) (k + 1) f fd ps sp := by
  obtain ⟨oc, od, kV, doc, pm, an, cdv, ct, osl, rfl, lk, hcd⟩ := F.ex
  exact fn_of lk hcd S len fun A outer s H vs Q E hr hsp => hbody cdv A outer s H vs Q E hr hsp
/-- the same, called while an exception is handled -/
theorem okH {x qual : Str} {st : Stmt} {f : Addr} {fd : FuncData} {N ps : List Str} {k : Nat} {sp : Sp} (F : Fun K x qual st f fd) (S : FnScope N ps (defScope st)) (len : ∀ vs H Q E, sp vs H Q E → vs.length = ps.length)
    (hbody : ∀ (cdv : Value) (A : Around) (outer : List Env) (s : Shared) (H : Hp) (vs : List V) (Q : VK) (E : XK) (p : Addr × Obj), L2H.Hot1 A p → L2H.RoomH k (A.deeper (envOfC qual (defScope st) s.heap.objs.size f cdv)) → sp vs H Q E →
      ∃ t, PSs (L2H.cxH CX0 P w K mg base N qual (defScope st) f cdv A outer s H E p) (defBody st) t ∧ t (Ends.mk (fun _ H' => Q .non H') Q (fun _ _ => False) (fun _ _ => False)) (start N vs) H) : L2H.FnH P w K mg base CX0 (k + 1) f fd ps sp := by
  obtain ⟨oc, od, kV, doc, pm, an, cdv, ct, osl, rfl, lk, hcd⟩ := F.ex
  exact L2H.fn_ofH lk hcd S len fun A outer s H vs Q E p hot hr hsp => hbody cdv A outer s H vs Q E p hot hr hsp
/-- a def of the text, by its name -/
structure Dn (K : PySem.W.Frag) (mg : Str → Option Value) (x : Str) (st : Stmt) (ps : List Str) (f : Addr) (fd : FuncData) : Prop where
  F : Fun K x x st f fd
  g : mg x = some (.ref f)
  b : Binds K fd ps []
/-- an own error's class without an __init__ -/
structure Xn (K : PySem.W.Frag) (mg : Str → Option Value) (x : Str) (C : Addr) : Prop where
  g : mg x = some (.ref C)
  q : PySem.W.excIn K C [.type "ValueError", .type "Exception", .type "BaseException", .type "object"] "ValueError.__new__" = true
  kC : PySem.W.keepIn K (.ref C) = true
  exC : PySem.W.subIn K (.ref C) (.type "BaseException") = some true
  tyC : PySem.W.typeIn K (.ref C) = some (.type "type")
/-- what isinstance asks of a caught error's class -/
structure Xk (K : PySem.W.Frag) (C : Addr) : Prop where
  cl : PySem.W.isClsIn K C = true
  ga : PySem.W.findIn K (.ref C) "__getattribute__" = some (some (.builtin "BaseException.__getattribute__"))
  gg : PySem.W.findIn K (.ref C) "__getattr__" = some none
  sb : PySem.W.subIn K (.ref C) (.type "BaseException") = some true
  ca : PySem.W.findIn K (.ref C) "__class__" = some (some (.builtin "object.__class__"))
  sp : PySem.W.specialIn K (.builtin "object.__class__") "__get__" = some (some (.builtin "getset_descriptor.__get__"))
  tk : PySem.W.takesIn K (.builtin "object.__class__") = some true
  mo : PySem.W.mroIn K C (.type "object") = some true
  hd : PySem.W.hasDictIn K C = true
  ss : PySem.W.subIn K (.ref C) (.ref C) = some true
  ty : PySem.W.typeIn K (.ref C) = some (.type "type")
theorem Xk.ex {C : Addr} (k : Xk K C) : PySem.W.exmOne K (.ref C) (.ref C) = some true := PySem.W.exm_ref k.sb k.hd k.ty k.ss
theorem Xk.xf {C : Addr} (k : Xk K C) : XfC K C := ⟨k.ga, k.gg, k.sb, k.hd⟩
theorem kit_yes {D C : Addr} (h1 : PySem.W.isClsIn K C = true) (h2 : PySem.W.typeIn K (.ref C) = some (.type "type")) (h3 : PySem.W.subIn K (.ref D) (.ref C) = some true) : PySem.W.kitOne K (.ref D) (.ref C) = some true := by
  have h1' : (PySem.W.clsIn K C).isSome = true := h1
  unfold PySem.W.kitOne
  split
  · rfl
  · show (if ((PySem.W.clsIn K C).isSome && PySem.W.typeIn K (.ref C) == some (.type "type")) = true then PySem.W.subIn K (.ref D) (.ref C) else none) = _
    rw [h1', h2, if_pos (by decide)]
    exact h3
theorem kit_no {D C : Addr} (h1 : PySem.W.isClsIn K C = true) (h2 : PySem.W.typeIn K (.ref C) = some (.type "type")) (h3 : PySem.W.subIn K (.ref D) (.ref C) = some false) (ne : D ≠ C) : PySem.W.kitOne K (.ref D) (.ref C) = some false := by
  have h1' : (PySem.W.clsIn K C).isSome = true := h1
  unfold PySem.W.kitOne
  split
  · rename_i h
    have e := beq_iff_eq.mp h
    cases e
    exact absurd rfl ne
  · show (if ((PySem.W.clsIn K C).isSome && PySem.W.typeIn K (.ref C) == some (.type "type")) = true then PySem.W.subIn K (.ref D) (.ref C) else none) = _
    rw [h1', h2, if_pos (by decide)]
    exact h3
theorem kit_blt {D : Addr} {T : String} {b : Bool} (h1 : PySem.W.kitMeta T = true) (h3 : PySem.W.subIn K (.ref D) (.type T) = some b) : PySem.W.kitOne K (.ref D) (.type T) = some b := by
  unfold PySem.W.kitOne
  rw [if_neg (by intro h; cases beq_iff_eq.mp h)]
  show (if PySem.W.kitMeta T = true then PySem.W.subIn K (.ref D) (.type T) else none) = _
  rw [h1, if_pos rfl]
  exact h3
end
theorem pass5 {X : Cx} : Passes (L2N.CX X.prog X.w) X E0 := fun _ _ _ _ _ _ _ h => by
  obtain ⟨_, _, _, _, _, _, _, _, _, _, _, _, z⟩ := h
  exact z.elim
theorem roomH_mark {k : Nat} {A : Around} (r : Room k A) (h : Option Value) : L2H.RoomH k (A.mark h) := ⟨r.dp, r.un⟩
theorem passH {X : Cx} {σ : L2.St} : PassesAt CX0 X σ E0 := fun _ _ _ _ _ _ h => h.elim
theorem takesF {X : Cx} : L2N.Takes X (fun _ _ _ _ => False) := fun _ _ x => by
  obtain ⟨_, _, _, _, _, _, _, _, _, _, _, _, _, _, _, _, z⟩ := x
  exact z.elim
section
variable {X : Cx}
theorem hotN {a : Addr} {oe : Obj} {cls : Value} {d : Option Addr} {pn : List (Addr × Obj)} (hz : L2N.Zn cls d oe) (hf : ∃ vs, oe.data = .fields vs) : L2H.HotC (X.suite a ((a, oe) :: pn)) := by
  obtain ⟨vs, e⟩ := hf
  exact ⟨(a, oe), ⟨rfl, vs, e, hz.2.2 vs e⟩, List.mem_cons_self⟩
/-- X() of such a class -/
theorem pmk0 {x : Str} {C : Addr} {p pos : Pos} (T : Xn X.K X.mg x C) (hg : Gl X x) (hdb : (x == ("__debug__" : Str)) = false := by decide) : L2N.PMk X (.Call (.Name x p) [] [] pos) (fun _ H Q => Q (.ref C) none H) := by
  intro pins s σ H Q I h
  refine wpAny_Call_Name_kw (ld_glob I hg T.g ?_ hdb)
  refine PySem.W.callWith_K0 I.kIn T.kC ?_
  obtain ⟨bm, N, nm, qn, bs, hdct, sn, sub, ab, col, dd, k0, k1, k2, k3, k5, mN, hC, hN, hni, T5⟩ := exc_obj I.kIn T.q
  refine wpAny_call_exc_subT PySem.F.excBase_ValueError T5 hC hN hni (fun h' e hm => ?_) (Nat.zero_le _)
  exact L2N.mk_of I hm (raises_own T.exC T.tyC) h (I.hok.gone hm.new)
/-- isinstance(e, c), e the caught error: its class D, its own dict d -/
def rIsX (K : PySem.W.Frag) (D a : Addr) (cls : Value) (d : Option Addr) : List V → Hp → VK → Prop := fun xs H Q => ∃ (c : V) (cv : Value) (b : Bool), xs = [.ref a, c] ∧ cls = .ref D ∧ (∀ u, RelV c u → u = cv) ∧ PySem.W.kitOne K (.ref D) cv = some b ∧ (d = none ∨ ∃ dd fs, d = some dd ∧ H dd = some (.xd fs)) ∧ Q (.bl b) H
theorem call_isX {a D : Addr} {oe : Obj} {cls : Value} {d : Option Addr} {pn : List (Addr × Obj)} (C : Xk X.K D) (hz : L2N.Zn cls d oe) (hf : ∃ vs, oe.data = .fields vs) : CallR (X.suite a ((a, oe) :: pn)) (.builtin "isinstance") (rIsX X.K D a cls d) := by
  intro pins s σ H xs us Q I r h
  obtain ⟨c, cv, b, rfl, ec, hcv, e, hd, q⟩ := h
  obtain ⟨u1, u2, rfl, r1, r2⟩ := vals2 r
  cases (show u1 = Value.ref a from r1)
  have e2 := hcv _ r2
  subst e2
  obtain ⟨hget, _⟩ := I.pin (a, oe) (List.mem_append.mpr (.inl List.mem_cons_self))
  obtain ⟨vs, hv⟩ := hf
  have J : ∃ od, PySem.W.InstAt s.heap a oe D od := by
    rcases hd with hd | ⟨dd, fs, hd, ho⟩
    · refine ⟨none, hget, hz.1.trans ec, by unfold PySem.W.notCls; rw [hv] <;> rfl, ?_⟩
      rw [hz.2.1, hd]
      trivial
    · have hx : ObjOk X.prog X.w H s.heap dd (.xd fs) := I.hok dd _ ho
      obtain ⟨mA, hns, _⟩ := hx
      obtain ⟨od, ho, _⟩ := lookIn_ns hns
      refine ⟨some od, hget, hz.1.trans ec, by unfold PySem.W.notCls; rw [hv] <;> rfl, ?_⟩
      rw [hz.2.1, hd]
      exact ho
  obtain ⟨od, J⟩ := J
  exact PySem.W.kia_one (PySem.W.kitx_exc C.cl C.ga C.gg C.sb C.ca C.sp C.tk C.mo) I.kIn J e (fun z => nomatch z) fun tk => ⟨.bl b, H, I.kept (t' := tk) fun _ _ z => z, rfl, q⟩
/-- a power of a greater number -/
def CPowB (i j : Int) : Prop := 0 ≤ j ∧ (PySem.Builtin.Int.intBits i : Int) * j ≤ 2 ^ 27
theorem op_powB : OpR X (binaryOp .Pow) (rI CPowB fun i j => .int (i ^ j.toNat)) := opI fun _ _ _ _ _ _ _ hc q => PyProof.Rows.pow_int hc.1 hc.2 q
end

/-! ### a reading, step by step -/
section
variable {K : PySem.W.Frag} {σ : L2.St} {H : Hp} {Q : VK} {QT : Bool → Hp → Prop} {QA : List V → Hp → Prop} {ta tb te tc : TE} {t u : TT} {ts tu tw : TS} {x y v : V} {r r' : R2} {nx bk ct : L2.St → Hp → Prop} {rt : VK} {i j : Nat}
theorem r_var (h : σ[i]? = some (some v)) (q : Q v H) : tVar i σ H Q := ⟨v, h, q⟩
theorem r_c (q : Q v H) : tC v σ H Q := q
theorem r_op (h : ta σ H fun x H1 => tb σ H1 fun y H2 => r x y H2 Q) : tOp r ta tb σ H Q := h
theorem r_un {ru : V → Hp → VK → Prop} (h : ta σ H fun x H1 => ru x H1 Q) : tUn ru ta σ H Q := h
theorem r_I0 {g : Int → Int → V} {a b : Int} (q : Q (g a b) H) : rI0 g (.int a) (.int b) H Q := ⟨a, b, rfl, rfl, q⟩
theorem r_I {C : Int → Int → Prop} {g : Int → Int → V} {a b : Int} (c : C a b) (q : Q (g a b) H) : rI C g (.int a) (.int b) H Q := ⟨a, b, rfl, rfl, c, q⟩
theorem r_U {g : Int → V} {a : Int} (q : Q (g a) H) : rU g (.int a) H Q := ⟨a, rfl, q⟩
theorem r_eqI {a b : Int} (q : Q (.bl (decide (a = b))) H) : rEq (.int a) (.int b) H Q := ⟨rfl, by
  have e : decide (V.int a = V.int b) = decide (a = b) := by
    by_cases h : a = b
    · rw [decide_eq_true h, decide_eq_true (congrArg V.int h)]
    · rw [decide_eq_false h, decide_eq_false (fun z => h (V.int.inj z))]
  rw [e]
  exact q⟩
theorem r_neI {a b : Int} (q : Q (.bl (!decide (a = b))) H) : rNe (.int a) (.int b) H Q := ⟨rfl, by
  have e : decide (V.int a = V.int b) = decide (a = b) := by
    by_cases h : a = b
    · rw [decide_eq_true h, decide_eq_true (congrArg V.int h)]
    · rw [decide_eq_false h, decide_eq_false (fun z => h (V.int.inj z))]
  rw [e]
  exact q⟩
theorem r_test (h : te σ H fun x H' => ∃ k, x = .bl k ∧ QT k H') : tTest te σ H QT := h
theorem r_tB (h : te σ H fun x H' => ∃ k, x = .bl k ∧ QT k H') : tB te σ H QT := h
theorem r_bl {k : Bool} {C : Bool → Prop} (q : C k) : ∃ k', V.bl k = .bl k' ∧ C k' := ⟨k, rfl, q⟩
theorem r_and (h : t σ H fun c H1 => if c = true then u σ H1 QT else QT false H1) : tAnd t u σ H QT := h
theorem r_or (h : t σ H fun c H1 => if c = true then QT true H1 else u σ H1 QT) : tOr t u σ H QT := h
theorem r_not (h : t σ H fun c H1 => QT (!c) H1) : tNot t σ H QT := h
theorem r_andV (h : ta σ H fun x H1 => ∃ c, x = .bl c ∧ if c = true then tb σ H1 Q else Q (.bl false) H1) : tAndV ta tb σ H Q := h
theorem r_orV (h : ta σ H fun x H1 => ∃ c, x = .bl c ∧ if c = true then Q (.bl true) H1 else tb σ H1 Q) : tOrV ta tb σ H Q := h
theorem r_notV (h : ta σ H fun x H1 => ∃ c, x = .bl c ∧ Q (.bl (!c)) H1) : tNotV ta σ H Q := h
theorem r_if (h : t σ H fun c H1 => if c = true then ta σ H1 Q else tb σ H1 Q) : tIf t ta tb σ H Q := h
theorem r_chain (h : ta σ H fun x H1 => tb σ H1 fun y H2 => r x y H2 fun z H3 => ∃ k, z = .bl k ∧ (if k = true then tc σ H3 fun w H4 => r' y w H4 Q else Q (.bl false) H3)) : tChain r r' ta tb tc σ H Q := h
theorem r_ite {C : Prop} [Decidable C] {A B : Prop} (h1 : C → A) (h2 : ¬ C → B) : if decide C = true then A else B := by
  by_cases h : C
  · rw [if_pos (decide_eq_true h)]; exact h1 h
  · rw [if_neg (by rw [decide_eq_false h]; decide)]; exact h2 h
theorem r_iteN {C : Prop} [Decidable C] {A B : Prop} (h1 : ¬ C → A) (h2 : C → B) : if (!decide C) = true then A else B := by
  by_cases h : C
  · rw [if_neg (by rw [decide_eq_true h]; decide)]; exact h2 h
  · rw [if_pos (by rw [decide_eq_false h]; decide)]; exact h1 h
theorem r_iteb {b : Bool} {A B : Prop} (h1 : b = true → A) (h2 : b = false → B) : if b = true then A else B := by
  cases b with
  | true => rw [if_pos rfl]; exact h1 rfl
  | false => rw [if_neg (by decide)]; exact h2 rfl
theorem r_iteNb {b : Bool} {A B : Prop} (h1 : b = false → A) (h2 : b = true → B) : if (!b) = true then A else B := by
  cases b with
  | true => rw [if_neg (by decide)]; exact h2 rfl
  | false => rw [if_pos (by decide)]; exact h1 rfl
theorem r_iteT {A B : Prop} (h : A) : if true = true then A else B := by rw [if_pos rfl]; exact h
theorem r_iteF {A B : Prop} (h : B) : if false = true then A else B := by rw [if_neg (by decide)]; exact h
theorem r_iteNT {A B : Prop} (h : B) : if (!true) = true then A else B := by rw [if_neg (by decide)]; exact h
theorem r_iteNF {A B : Prop} (h : A) : if (!false) = true then A else B := by rw [if_pos (by decide)]; exact h
-- arguments, displays
theorem r_nil (q : QA [] H) : tNil σ H QA := q
theorem r_cons {tr : TA} (h : te σ H fun x H1 => tr σ H1 fun xs H2 => QA (x :: xs) H2) : tCons te tr σ H QA := h
theorem r_tup {t : TA} (h : t σ H fun xs H1 => xs.length ≤ sizeLine ∧ ∀ p, H1 p = none → Q (.ref p) (upd H1 p (.tup xs))) : tTup t σ H Q := h
theorem r_lst {t : TA} (h : t σ H fun xs H1 => xs.length ≤ sizeLine ∧ ∀ p, H1 p = none → Q (.ref p) (upd H1 p (.lst xs))) : tLst t σ H Q := h
theorem r_CB {r : List V → Hp → VK → Prop} {t : TA} (h : t σ H fun vs H1 => r vs H1 Q) : tCB r t σ H Q := h
theorem r_callS {sp : Sp} {E : L2.St → XK} {t : TA} (h : t σ H fun vs H1 => sp vs H1 Q (E σ)) : tCallS sp E t σ H Q := h
theorem r_call {sp : Sp} {E : XK} {t : TA} (h : t σ H fun vs H1 => sp vs H1 Q E) : tCall sp [] E t σ H Q := by
  show t σ H fun vs H1 => sp (vs ++ []) H1 Q E
  have e : (fun (vs : List V) (H1 : Hp) => sp (vs ++ []) H1 Q E) = fun vs H1 => sp vs H1 Q E := by
    funext vs H1
    rw [List.append_nil]
  rw [e]
  exact h
def rAbs : List V → Hp → VK → Prop := fun xs H Q => ∃ i, xs = [.int i] ∧ Q (.int (if i < 0 then -i else i)) H
theorem r_abs {a : Int} (q : Q (.int (if a < 0 then -a else a)) H) : rAbs [.int a] H Q := ⟨a, rfl, q⟩
def rMax2 : List V → Hp → VK → Prop := fun xs H Q => ∃ i j, xs = [.int i, .int j] ∧ Q (.int (if j > i then j else i)) H
theorem r_max2 {a b : Int} (q : Q (.int (if b > a then b else a)) H) : rMax2 [.int a, .int b] H Q := ⟨a, b, rfl, q⟩
def rMin2 : List V → Hp → VK → Prop := fun xs H Q => ∃ i j, xs = [.int i, .int j] ∧ Q (.int (if j < i then j else i)) H
theorem r_min2 {a b : Int} (q : Q (.int (if b < a then b else a)) H) : rMin2 [.int a, .int b] H Q := ⟨a, b, rfl, q⟩
def rInt : List V → Hp → VK → Prop := fun xs H Q => (∃ i, xs = [.int i] ∧ Q (.int i) H) ∨ ∃ k, xs = [.bl k] ∧ Q (.int (if k then 1 else 0)) H
theorem r_int {a : Int} (q : Q (.int a) H) : rInt [.int a] H Q := .inl ⟨a, rfl, q⟩
theorem r_intB {b : Bool} (q : Q (.int (if b then 1 else 0)) H) : rInt [.bl b] H Q := .inr ⟨b, rfl, q⟩
def rLenS (K : PySem.W.Frag) : List V → Hp → VK → Prop := fun xs H Q => ∃ p ys, xs = [.ref p] ∧ (SqL K H p ys ∨ SqT K H p ys) ∧ Q (.int ys.length) H
theorem r_len {a : Addr} {xs : List V} (h : SqL K H a xs) (q : Q (.int xs.length) H) : rLenS K [.ref a] H Q := ⟨a, xs, rfl, .inl h, q⟩
theorem r_lenT {a : Addr} {xs : List V} (h : SqT K H a xs) (q : Q (.int xs.length) H) : rLenS K [.ref a] H Q := ⟨a, xs, rfl, .inr h, q⟩
def rList (K : PySem.W.Frag) : List V → Hp → VK → Prop := fun xs H Q => ∃ p ys, xs = [.ref p] ∧ (SqL K H p ys ∨ SqT K H p ys) ∧ ∀ l, H l = none → Q (.ref l) (upd H l (.lst ys))
theorem r_list {a : Addr} {xs : List V} (h : SqL K H a xs) (q : ∀ l, H l = none → Q (.ref l) (upd H l (.lst xs))) : rList K [.ref a] H Q := ⟨a, xs, rfl, .inl h, q⟩
theorem r_ixL {a : Addr} {xs : List V} {z : Int} (h : SqL K H a xs) (e : atI xs z = some v) (q : Q v H) : rIxL K (.ref a) (.int z) H Q := ⟨a, xs, z, v, rfl, rfl, h, e, q⟩
theorem r_ixT {a : Addr} {xs : List V} {z : Int} (h : SqT K H a xs) (e : atI xs z = some v) (q : Q v H) : rIxT K (.ref a) (.int z) H Q := ⟨a, xs, z, v, rfl, rfl, h, e, q⟩
theorem r_setL {a : Addr} {xs : List V} {z : Int} {k : Nat} {C : Hp → Prop} (h : H a = some (.lst xs)) (e : ixN xs.length z = some k) (q : C (upd H a (.lst (xs.set k v)))) : rSetL (.ref a) (.int z) v H C := ⟨a, xs, z, k, rfl, rfl, h, e, q⟩
theorem r_BM0 {T : String} {r : V → List V → Hp → VK → Prop} {to : TE} (h : to σ H fun x H1 => tyV K T x H1 ∧ r x [] H1 Q) : tBM0 K T r to σ H Q := h
theorem r_rev {a : Addr} {xs : List V} (h : H a = some (.lst xs)) (q : Q .non (upd H a (.lst xs.reverse))) : rReverse (.ref a) [] H Q := ⟨a, xs, rfl, rfl, h, q⟩
theorem r_BM {T : String} {r : V → List V → Hp → VK → Prop} {to : TE} {t : TA} (h : to σ H fun x H1 => tyV K T x H1 ∧ t σ H1 fun xs H2 => r x xs H2 Q) : tBM K T r to t σ H Q := h
theorem r_app {a : Addr} {xs : List V} (h : H a = some (.lst xs)) (l : xs.length < sizeLine) (q : Q .non (upd H a (.lst (xs ++ [v])))) : rAppend (.ref a) [v] H Q := ⟨a, xs, v, rfl, rfl, h, l, q⟩
theorem tyL {a : Addr} {xs : List V} (h : H a = some (.lst xs)) : tyV K "list" (.ref a) H := .inl ⟨rfl, _, .inl (.inl h)⟩
theorem r_ty {a : Addr} {xs : List V} {B : Prop} (h : H a = some (.lst xs)) (q : B) : tyV K "list" (.ref a) H ∧ B := ⟨tyL h, q⟩
-- statements, something behind
theorem r_seq_set (h : te σ H fun x H1 => tu (Ends.mk nx rt bk ct) (σ.set i (some x)) H1) : tSeq (tAsg te (gName i)) tu (Ends.mk nx rt bk ct) σ H := h
theorem r_seq_sub {to ti : TE} {tt : TSet} (h : te σ H fun x H1 => to σ H1 fun o H2 => ti σ H2 fun k H3 => tt o k x H3 fun H4 => tu (Ends.mk nx rt bk ct) σ H4) : tSeq (tAsg te (gSub to ti tt)) tu (Ends.mk nx rt bk ct) σ H := h
theorem r_seq_when (h : t σ H fun b H1 => if b = true then ts (Ends.mk (tu (Ends.mk nx rt bk ct)) rt bk ct) σ H1 else tu (Ends.mk nx rt bk ct) σ H1) : tSeq (tIfS t ts tNext) tu (Ends.mk nx rt bk ct) σ H := h
theorem r_seq_if (h : t σ H fun b H1 => if b = true then ts (Ends.mk (tu (Ends.mk nx rt bk ct)) rt bk ct) σ H1 else tw (Ends.mk (tu (Ends.mk nx rt bk ct)) rt bk ct) σ H1) : tSeq (tIfS t ts tw) tu (Ends.mk nx rt bk ct) σ H := h
theorem r_seq_drop (h : te σ H fun _ H1 => tu (Ends.mk nx rt bk ct) σ H1) : tSeq (tDrop te) tu (Ends.mk nx rt bk ct) σ H := h
theorem r_seq (h : ts (Ends.mk (tu (Ends.mk nx rt bk ct)) rt bk ct) σ H) : tSeq ts tu (Ends.mk nx rt bk ct) σ H := h
-- the last one
theorem r_set (h : te σ H fun x H1 => nx (σ.set i (some x)) H1) : tAsg te (gName i) (Ends.mk nx rt bk ct) σ H := h
theorem r_sub {to ti : TE} {tt : TSet} (h : te σ H fun x H1 => to σ H1 fun o H2 => ti σ H2 fun k H3 => tt o k x H3 fun H4 => nx σ H4) : tAsg te (gSub to ti tt) (Ends.mk nx rt bk ct) σ H := h
theorem r_when (h : t σ H fun b H1 => if b = true then ts (Ends.mk nx rt bk ct) σ H1 else nx σ H1) : tIfS t ts tNext (Ends.mk nx rt bk ct) σ H := h
theorem r_ifs (h : t σ H fun b H1 => if b = true then ts (Ends.mk nx rt bk ct) σ H1 else tw (Ends.mk nx rt bk ct) σ H1) : tIfS t ts tw (Ends.mk nx rt bk ct) σ H := h
theorem r_drop (h : te σ H fun _ H1 => nx σ H1) : tDrop te (Ends.mk nx rt bk ct) σ H := h
theorem r_ret (h : te σ H rt) : tRet te (Ends.mk nx rt bk ct) σ H := h
theorem r_brk (h : bk σ H) : tBreak (Ends.mk nx rt bk ct) σ H := h
theorem r_cnt (h : ct σ H) : tCont (Ends.mk nx rt bk ct) σ H := h
theorem r_nxt (h : nx σ H) : tNext (Ends.mk nx rt bk ct) σ H := h
-- loops
def ForW (J : It) (g : TG) (tb : TS) (nx : L2.St → Hp → Prop) (rt : VK) (σ : L2.St) (H : Hp) : Prop := ∃ W : Nat → Nat → L2.St → Hp → Prop, (∃ m, W 0 m σ H) ∧ ∀ i m σ H, W i m σ H →
  (J.stop i H ∧ nx σ H) ∨ (J.go i H ∧ ∃ N : L2.St → Hp → Prop, (∀ σ' H', N σ' H' → ∃ m', m' < m ∧ W (i + 1) m' σ' H') ∧ ∀ x H', J.yld i H x H' → g x σ H' fun σ2 H2 => tb (Ends.mk N rt nx N) σ2 H2)
theorem r_for {wi : TI} {g : TG} (h : wi σ H fun J H1 => ForW J g ts nx rt σ H1) : tFor wi g ts (Ends.mk nx rt bk ct) σ H := h
theorem r_rng1 {ta : TA} {R : It → Hp → Prop} (h : ta σ H fun vs H1 => ∃ j : Int, vs = [.int j] ∧ -(2 ^ 62) ≤ j ∧ j < 2 ^ 62 ∧ R (Itr 0 j.toNat) H1) : iRng1 ta σ H R := h
theorem r_rng2 {ta : TA} {R : It → Hp → Prop} (h : ta σ H fun vs H1 => ∃ i j : Int, vs = [.int i, .int j] ∧ (-(2 ^ 62) ≤ i ∧ i < 2 ^ 62 ∧ -(2 ^ 62) ≤ j ∧ j < 2 ^ 62) ∧ R (Itr i (j - i).toNat) H1) : iRng2 ta σ H R := h
theorem r_iList {tl : TE} {R : It → Hp → Prop} (h : tl σ H fun x H1 => ∃ a, x = .ref a ∧ (∃ xs, SqL K H1 a xs) ∧ R (Itl K a) H1) : iList K tl σ H R := h
theorem f_rng1 {n : Int} {g : TG} (b1 : -(2 ^ 62) ≤ n) (b2 : n < 2 ^ 62) (q : ForW (Itr 0 n.toNat) g ts nx rt σ H) : ∃ j : Int, [V.int n] = [.int j] ∧ -(2 ^ 62) ≤ j ∧ j < 2 ^ 62 ∧ ForW (Itr 0 j.toNat) g ts nx rt σ H := ⟨n, rfl, b1, b2, q⟩
theorem f_rng2 {lo hi : Int} {g : TG} (b : -(2 ^ 62) ≤ lo ∧ lo < 2 ^ 62 ∧ -(2 ^ 62) ≤ hi ∧ hi < 2 ^ 62) (q : ForW (Itr lo (hi - lo).toNat) g ts nx rt σ H) : ∃ i j : Int, [V.int lo, V.int hi] = [.int i, .int j] ∧ (-(2 ^ 62) ≤ i ∧ i < 2 ^ 62 ∧ -(2 ^ 62) ≤ j ∧ j < 2 ^ 62) ∧ ForW (Itr i (j - i).toNat) g ts nx rt σ H := ⟨lo, hi, rfl, b, q⟩
theorem f_rng3 {i j c : Int} {n : Nat} {g : TG} (b : RgC i j c n) (q : ForW (Itc i c n) g ts nx rt σ H) : ∃ (i' j' c' : Int) (n' : Nat), [V.int i, V.int j, V.int c] = [.int i', .int j', .int c'] ∧ RgC i' j' c' n' ∧ ForW (Itc i' c' n') g ts nx rt σ H := ⟨i, j, c, n, rfl, b, q⟩
theorem f_list {a : Addr} {xs : List V} {g : TG} (h : SqL K H a xs) (q : ForW (Itl K a) g ts nx rt σ H) : ∃ b, V.ref a = .ref b ∧ (∃ xs, SqL K H b xs) ∧ ForW (Itl K b) g ts nx rt σ H := ⟨a, rfl, ⟨xs, h⟩, q⟩
theorem f_tup {a : Addr} {xs : List V} {g : TG} (h : SqT K H a xs) (q : ForW (Itt K a) g ts nx rt σ H) : ∃ b, V.ref a = .ref b ∧ (∃ xs, SqT K H b xs) ∧ ForW (Itt K b) g ts nx rt σ H := ⟨a, rfl, ⟨xs, h⟩, q⟩
theorem lp_range {lo : Int} {n : Nat} {g : TG} (Pv : Nat → L2.St → Hp → Prop) (h0 : Pv 0 σ H) (hs : ∀ i σ H, i < n → Pv i σ H → g (.int (lo + i)) σ H fun σ2 H2 => ts (Ends.mk (Pv (i + 1)) rt nx (Pv (i + 1))) σ2 H2) (hd : ∀ σ H, Pv n σ H → nx σ H) : ForW (Itr lo n) g ts nx rt σ H :=
  for_range (D := Ends.mk nx rt nx nx) Pv h0 hs hd
theorem lp_list {a : Addr} {xs : List V} {g : TG} (Pv : Nat → L2.St → Hp → Prop) (h0 : Pv 0 σ H) (hl : ∀ i σ H, i ≤ xs.length → Pv i σ H → SqL K H a xs)
    (hs : ∀ i x σ H, xs[i]? = some x → Pv i σ H → g x σ H fun σ2 H2 => ts (Ends.mk (Pv (i + 1)) rt nx (Pv (i + 1))) σ2 H2) (hd : ∀ σ H, Pv xs.length σ H → nx σ H) : ForW (Itl K a) g ts nx rt σ H :=
  for_list (D := Ends.mk nx rt nx nx) Pv h0 hl hs hd
theorem r_gName {C : L2.St → Hp → Prop} (h : C (σ.set i (some v)) H) : gName i v σ H C := h
/-- a turn's body, from measure m -/
def WhB (W : Nat → L2.St → Hp → Prop) (m : Nat) (tb : TS) (nx : L2.St → Hp → Prop) (rt : VK) (σ : L2.St) (H : Hp) : Prop := ∃ N : L2.St → Hp → Prop, (∀ σ' H', N σ' H' → ∃ m', m' < m ∧ W m' σ' H') ∧ tb (Ends.mk N rt nx N) σ H
theorem wh_body {W : Nat → L2.St → Hp → Prop} {m : Nat} {tb : TS} (h : tb (Ends.mk (fun σ' H' => ∃ m', m' < m ∧ W m' σ' H') rt nx (fun σ' H' => ∃ m', m' < m ∧ W m' σ' H')) σ H) : WhB W m tb nx rt σ H := ⟨_, fun _ _ z => z, h⟩
theorem r_while {tb : TS} (W : Nat → L2.St → Hp → Prop) (m : Nat) (h0 : W m σ H) (hs : ∀ m σ H, W m σ H → t σ H fun b H1 => if b = true then WhB W m tb nx rt σ H1 else nx σ H1) : tWhile t tb (Ends.mk nx rt bk ct) σ H := ⟨W, ⟨m, h0⟩, hs⟩
theorem r_iTup {tl : TE} {R : It → Hp → Prop} (h : tl σ H fun x H1 => ∃ a, x = .ref a ∧ (∃ xs, SqT K H1 a xs) ∧ R (Itt K a) H1) : iTup K tl σ H R := h
theorem lp_tup {a : Addr} {xs : List V} {g : TG} (Pv : Nat → L2.St → Hp → Prop) (h0 : Pv 0 σ H) (hl : ∀ i σ H, i ≤ xs.length → Pv i σ H → SqT K H a xs)
    (hs : ∀ i x σ H, xs[i]? = some x → Pv i σ H → g x σ H fun σ2 H2 => ts (Ends.mk (Pv (i + 1)) rt nx (Pv (i + 1))) σ2 H2) (hd : ∀ σ H, Pv xs.length σ H → nx σ H) : ForW (Itt K a) g ts nx rt σ H :=
  for_tup (D := Ends.mk nx rt nx nx) Pv h0 hl hs hd
theorem lp_rangeC {lo c : Int} {n : Nat} {g : TG} (Pv : Nat → L2.St → Hp → Prop) (h0 : Pv 0 σ H) (hs : ∀ i σ H, i < n → Pv i σ H → g (.int (lo + (i : Nat) * c)) σ H fun σ2 H2 => ts (Ends.mk (Pv (i + 1)) rt nx (Pv (i + 1))) σ2 H2) (hd : ∀ σ H, Pv n σ H → nx σ H) : ForW (Itc lo c n) g ts nx rt σ H :=
  for_rangeC (D := Ends.mk nx rt nx nx) Pv h0 hs hd
theorem r_rng3 {ta : TA} {R : It → Hp → Prop} (h : ta σ H fun vs H1 => ∃ (i j c : Int) (n : Nat), vs = [.int i, .int j, .int c] ∧ RgC i j c n ∧ R (Itc i c n) H1) : iRng3 ta σ H R := h
-- comprehensions
def LcW (J : It) (g : TG) (tt : TT) (te : TE) (vs : List Nat) (σ : L2.St) (H1 : Hp) (D : Addr) (Qd : Hp → Prop) : Prop := ∃ W : Nat → Nat → Hp → Prop, (∃ m, W 0 m (upd H1 D (.lst []))) ∧ ∀ i m H, W i m H →
  (J.stop i H ∧ Qd H) ∨ (J.go i H ∧ ∃ Nx : Hp → Prop, (∀ H', Nx H' → ∃ m', m' < m ∧ W (i + 1) m' H') ∧ ∀ x H', J.yld i H x H' → g x (wipe σ vs) H' fun σ2 H2 => wipe σ2 vs = wipe σ vs ∧ tt σ2 H2 fun b H3 =>
    if b = true then te σ2 H3 fun y H4 => ∃ acc, H4 D = some (.lst acc) ∧ acc.length < sizeLine ∧ Nx (upd H4 D (.lst (acc ++ [y]))) else Nx H3)
theorem r_lc {wi : TI} {g : TG} {tt : TT} {vs : List Nat} (h : wi σ H fun J H1 => ∀ D, H1 D = none → LcW J g tt te vs σ H1 D fun H' => Q (.ref D) H') : tLc wi g tt te vs σ H Q := h
theorem c_rng1 {n : Int} {g : TG} {tt : TT} {vs : List Nat} {σ' : L2.St} {Q' : Addr → Hp → Prop} (b1 : -(2 ^ 62) ≤ n) (b2 : n < 2 ^ 62) (q : ∀ D, H D = none → LcW (Itr 0 n.toNat) g tt te vs σ' H D (Q' D)) : ∃ j : Int, [V.int n] = [.int j] ∧ -(2 ^ 62) ≤ j ∧ j < 2 ^ 62 ∧ ∀ D, H D = none → LcW (Itr 0 j.toNat) g tt te vs σ' H D (Q' D) := ⟨n, rfl, b1, b2, q⟩
theorem c_rng2 {lo hi : Int} {g : TG} {tt : TT} {vs : List Nat} {σ' : L2.St} {Q' : Addr → Hp → Prop} (b : -(2 ^ 62) ≤ lo ∧ lo < 2 ^ 62 ∧ -(2 ^ 62) ≤ hi ∧ hi < 2 ^ 62) (q : ∀ D, H D = none → LcW (Itr lo (hi - lo).toNat) g tt te vs σ' H D (Q' D)) : ∃ i j : Int, [V.int lo, V.int hi] = [.int i, .int j] ∧ (-(2 ^ 62) ≤ i ∧ i < 2 ^ 62 ∧ -(2 ^ 62) ≤ j ∧ j < 2 ^ 62) ∧ ∀ D, H D = none → LcW (Itr i (j - i).toNat) g tt te vs σ' H D (Q' D) := ⟨lo, hi, rfl, b, q⟩
theorem c_list {a : Addr} {xs : List V} {g : TG} {tt : TT} {vs : List Nat} {σ' : L2.St} {Q' : Addr → Hp → Prop} (h : SqL K H a xs) (q : ∀ D, H D = none → LcW (Itl K a) g tt te vs σ' H D (Q' D)) : ∃ b, V.ref a = .ref b ∧ (∃ xs, SqL K H b xs) ∧ ∀ D, H D = none → LcW (Itl K b) g tt te vs σ' H D (Q' D) := ⟨a, rfl, ⟨xs, h⟩, q⟩
theorem c_tup {a : Addr} {xs : List V} {g : TG} {tt : TT} {vs : List Nat} {σ' : L2.St} {Q' : Addr → Hp → Prop} (h : SqT K H a xs) (q : ∀ D, H D = none → LcW (Itt K a) g tt te vs σ' H D (Q' D)) : ∃ b, V.ref a = .ref b ∧ (∃ xs, SqT K H b xs) ∧ ∀ D, H D = none → LcW (Itt K b) g tt te vs σ' H D (Q' D) := ⟨a, rfl, ⟨xs, h⟩, q⟩
/-- a turn of a comprehension over a name: the test, the item -/
def LcT (tt : TT) (te : TE) (D : Addr) (N : Hp → Prop) (σ : L2.St) (H : Hp) : Prop := tt σ H fun b H3 => if b = true then te σ H3 fun y H4 => ∃ acc, H4 D = some (.lst acc) ∧ acc.length < sizeLine ∧ N (upd H4 D (.lst (acc ++ [y]))) else N H3
theorem lcw_range {lo : Int} {n : Nat} {tt : TT} {vs : List Nat} {H1 : Hp} {D : Addr} {Qd : Hp → Prop} (Pv : Nat → Hp → Prop) (h0 : Pv 0 (upd H1 D (.lst []))) (hw : ∀ x, wipe ((wipe σ vs).set j (some x)) vs = wipe σ vs)
    (hs : ∀ i H, i < n → Pv i H → LcT tt te D (Pv (i + 1)) ((wipe σ vs).set j (some (.int (lo + i)))) H) (hd : ∀ H, Pv n H → Qd H) : LcW (Itr lo n) (gName j) tt te vs σ H1 D Qd :=
  lc_range Pv h0 (fun i H hi p => ⟨hw _, hs i H hi p⟩) hd
theorem lcw_list {a : Addr} {xs : List V} {tt : TT} {vs : List Nat} {H1 : Hp} {D : Addr} {Qd : Hp → Prop} (Pv : Nat → Hp → Prop) (h0 : Pv 0 (upd H1 D (.lst []))) (hw : ∀ x, wipe ((wipe σ vs).set j (some x)) vs = wipe σ vs) (hl : ∀ i H, i ≤ xs.length → Pv i H → SqL K H a xs)
    (hs : ∀ i x H, xs[i]? = some x → Pv i H → LcT tt te D (Pv (i + 1)) ((wipe σ vs).set j (some x)) H) (hd : ∀ H, Pv xs.length H → Qd H) : LcW (Itl K a) (gName j) tt te vs σ H1 D Qd :=
  lc_list Pv h0 hl (fun i x H hi p => ⟨hw _, hs i x H hi p⟩) hd
theorem lcw_tup {a : Addr} {xs : List V} {tt : TT} {vs : List Nat} {H1 : Hp} {D : Addr} {Qd : Hp → Prop} (Pv : Nat → Hp → Prop) (h0 : Pv 0 (upd H1 D (.lst []))) (hw : ∀ x, wipe ((wipe σ vs).set j (some x)) vs = wipe σ vs) (hl : ∀ i H, i ≤ xs.length → Pv i H → SqT K H a xs)
    (hs : ∀ i x H, xs[i]? = some x → Pv i H → LcT tt te D (Pv (i + 1)) ((wipe σ vs).set j (some x)) H) (hd : ∀ H, Pv xs.length H → Qd H) : LcW (Itt K a) (gName j) tt te vs σ H1 D Qd :=
  lc_tup Pv h0 hl (fun i x H hi p => ⟨hw _, hs i x H hi p⟩) hd
theorem lct_yes {D : Addr} {N : Hp → Prop} (h : te σ H fun y H4 => ∃ acc, H4 D = some (.lst acc) ∧ acc.length < sizeLine ∧ N (upd H4 D (.lst (acc ++ [y])))) : LcT tYes te D N σ H := r_iteT (B := N H) h
theorem lct_if {tt : TT} {D : Addr} {N : Hp → Prop} (h : tt σ H fun b H3 => if b = true then te σ H3 fun y H4 => ∃ acc, H4 D = some (.lst acc) ∧ acc.length < sizeLine ∧ N (upd H4 D (.lst (acc ++ [y]))) else N H3) : LcT tt te D N σ H := h
end
section
variable {X : Cx}
theorem call_int : CallR X (.type "int") rInt := call_int1
theorem call_abs : CallR X (.builtin "abs") rAbs := L2.call_abs
theorem call_max2 (hc : X.calm = true) : CallR X (.builtin "max") rMax2 := L2.call_max2 hc
theorem call_min2 (hc : X.calm = true) : CallR X (.builtin "min") rMin2 := L2.call_min2 hc
theorem call_len : CallR X (.builtin "len") (rLenS X.K) := L2.call_len_seq
theorem call_list : CallR X (.type "list") (rList X.K) := L2.call_list_of
def rTup (K : PySem.W.Frag) : List V → Hp → VK → Prop := fun xs H Q => ∃ p ys, xs = [.ref p] ∧ ((SqL K H p ys ∧ ∀ l, H l = none → Q (.ref l) (upd H l (.tup ys))) ∨ (SqT K H p ys ∧ Q (.ref p) H))
theorem call_tuple : CallR X (.type "tuple") (rTup X.K) := L2.call_tuple_of
theorem r_tupL {K : PySem.W.Frag} {H : Hp} {Q : VK} {a : Addr} {xs : List V} (h : SqL K H a xs) (q : ∀ l, H l = none → Q (.ref l) (upd H l (.tup xs))) : rTup K [.ref a] H Q := ⟨a, xs, rfl, .inl ⟨h, q⟩⟩
theorem r_tupT {K : PySem.W.Frag} {H : Hp} {Q : VK} {a : Addr} {xs : List V} (h : SqT K H a xs) (q : Q (.ref a) H) : rTup K [.ref a] H Q := ⟨a, xs, rfl, .inr ⟨h, q⟩⟩
def rBool : List V → Hp → VK → Prop := fun xs H Q => (∃ i, xs = [.int i] ∧ Q (.bl (i != 0)) H) ∨ ∃ k, xs = [.bl k] ∧ Q (.bl k) H
theorem call_bool : CallR X (.type "bool") rBool := L2.call_bool1
theorem r_ixSL {K : PySem.W.Frag} {H : Hp} {Q : VK} {a : Addr} {xs : List V} {z : Int} {v : V} (h : SqL K H a xs) (e : atI xs z = some v) (q : Q v H) : rIx K (.ref a) (.int z) H Q := .inl ⟨a, xs, z, v, rfl, rfl, h, e, q⟩
theorem r_ixST {K : PySem.W.Frag} {H : Hp} {Q : VK} {a : Addr} {xs : List V} {z : Int} {v : V} (h : SqT K H a xs) (e : atI xs z = some v) (q : Q v H) : rIx K (.ref a) (.int z) H Q := .inr (.inl ⟨a, xs, z, v, rfl, rfl, h, e, q⟩)
def rIsN : R2 := fun x y H Q => y = .non ∧ Q (.bl (decide (x = .non))) H
def rNotN : R2 := fun x y H Q => y = .non ∧ Q (.bl (!decide (x = .non))) H
theorem op_isN : OpR X (compareOp .Is) rIsN := L2.op_isN
theorem op_notN : OpR X (compareOp .IsNot) rNotN := L2.op_notN
theorem r_isN {x : V} {H : Hp} {Q : VK} (q : Q (.bl (decide (x = .non))) H) : rIsN x .non H Q := ⟨rfl, q⟩
theorem r_notN {x : V} {H : Hp} {Q : VK} (q : Q (.bl (!decide (x = .non))) H) : rNotN x .non H Q := ⟨rfl, q⟩
end
section
variable {K : PySem.W.Frag} {σ : L2.St} {H : Hp} {Q : VK} {nx bk ct : L2.St → Hp → Prop} {rt : VK} {te : TE}
/-- into an except suite -/
theorem r_as {C : Addr} {d : Option Addr} {i : Nat} {ts : Addr → Value → Option Addr → TS} {Wo : WX} (k : Xk K C) (h : ∀ a, H a = none → ts a (.ref C) d (Ends.mk (fun σ' H' => nx (σ'.set i none) H') rt (fun σ' H' => bk (σ'.set i none) H') (fun σ' H' => ct (σ'.set i none) H')) (σ.set i (some (.ref a))) H) :
    WE (wAs K (.ref C) i ts Wo (Ends.mk nx rt bk ct)) σ (.ref C) d H := ⟨true, k.ex, fun _ => h, fun z => Bool.noConfusion z⟩
theorem r_isXr {D a C : Addr} {d : Option Addr} {b : Bool} (e : PySem.W.kitOne K (.ref D) (.ref C) = some b) (hd : d = none ∨ ∃ dd fs, d = some dd ∧ H dd = some (.xd fs)) (q : Q (.bl b) H) : rIsX K D a (.ref D) d [.ref a, .ref C] H Q := ⟨.ref C, .ref C, b, rfl, rfl, fun _ h => h, e, hd, q⟩
theorem r_isXt {D a : Addr} {n : String} {d : Option Addr} {b : Bool} (e : PySem.W.kitOne K (.ref D) (.type n) = some b) (hd : d = none ∨ ∃ dd fs, d = some dd ∧ H dd = some (.xd fs)) (q : Q (.bl b) H) : rIsX K D a (.ref D) d [.ref a, .ty n] H Q := ⟨.ty n, .type n, b, rfl, rfl, fun _ h => h, e, hd, q⟩
theorem r_xf {a C : Addr} {cls : Value} {d : Option Addr} {f : Str} (h : te σ H fun x H1 => x = .ref a ∧ cls = .ref C ∧ ∃ (dd : Addr) (fs : List (Str × V)) (v : V), d = some dd ∧ H1 dd = some (.xd fs) ∧ fs.lookup f = some v ∧ Q v H1) : tXf a cls d C f te σ H Q := h
theorem r_xfv {a C dd : Addr} {f : Str} {fs : List (Str × V)} {v : V} {R : V → Prop} (h : H dd = some (.xd fs)) (l : fs.lookup f = some v) (q : R v) : V.ref a = .ref a ∧ Value.ref C = .ref C ∧ ∃ (dd' : Addr) (fs : List (Str × V)) (v : V), some dd = some dd' ∧ H dd' = some (.xd fs) ∧ fs.lookup f = some v ∧ R v := ⟨rfl, rfl, dd, fs, v, rfl, h, l, q⟩
end
end Vb
namespace Vb
open PySem PySem.Spec PyProof.Rows L2
/-! ### what stands, carried on -/
theorem h_new {H : Hp} {p q : Addr} {o u : HO} (n : H p = none) (h : H q = some u) : upd H p o q = some u := by
  rw [upd_ne (ne_of_none h n)]
  exact h
theorem h_ne {H : Hp} {p q : Addr} {o u : HO} (n : q ≠ p) (h : H q = some u) : upd H p o q = some u := by
  rw [upd_ne n]
  exact h
theorem h_no {H : Hp} {p q : Addr} {o : HO} (n : q ≠ p) (h : H q = none) : upd H p o q = none := by
  rw [upd_ne n]
  exact h
theorem sq_of {K : PySem.W.Frag} {H : Hp} {a : Addr} {xs : List V} (h : H a = some (.lst xs)) : SqL K H a xs := .inl (.inl h)
theorem st_of {K : PySem.W.Frag} {H : Hp} {a : Addr} {xs : List V} (h : H a = some (.tup xs)) : SqT K H a xs := .inl (.inl h)
theorem same_new {H : Hp} {p : Addr} {o : HO} (n : H p = none) : Same H (upd H p o) := fun _ _ h => h_new n h
/-- an object that H does not know may change -/
theorem same_mut {H H' : Hp} {p : Addr} {o : HO} (e : Same H H') (h : H p = none) : Same H (upd H' p o) := fun a u ha => h_ne (ne_of_none ha h) (e a u ha)
/-- all but st is as it was -/
structure Fr (st : Addr) (H H' : Hp) : Prop where
  k : ∀ b o, b ≠ st → H b = some o → H' b = some o
  hd : ∀ l r, H st = some (.lst (.ref l :: r)) → ∃ r', H' st = some (.lst (.ref l :: r'))
theorem Fr.refl (st : Addr) (H : Hp) : Fr st H H := ⟨fun _ _ _ h => h, fun _ r h => ⟨r, h⟩⟩
theorem Fr.trans {st : Addr} {H H1 H2 : Hp} (a : Fr st H H1) (b : Fr st H1 H2) : Fr st H H2 := ⟨fun c o n h => b.k c o n (a.k c o n h), fun l r h => (a.hd l r h).elim fun r' h' => b.hd l r' h'⟩
theorem Fr.of {st : Addr} {H H' : Hp} (a : Same H H') : Fr st H H' := ⟨fun c o _ h => a c o h, fun _ r h => ⟨r, a _ _ h⟩⟩
theorem Fr.seq {K : PySem.W.Frag} {st : Addr} {H H' : Hp} {a : Addr} {xs : List V} (e : Fr st H H') (n : a ≠ st) (h : SqL K H a xs) : SqL K H' a xs := by
  rcases h with (h | ⟨o, h⟩) | h
  · exact .inl (.inl (e.k _ _ n h))
  · exact .inl (.inr ⟨o, e.k _ _ n h⟩)
  · exact .inr h
theorem Fr.mut {st p : Addr} {H H' : Hp} {o : HO} (e : Fr st H H') (h : H p = none) : Fr st H (upd H' p o) := ⟨fun a u n ha => h_ne (ne_of_none ha h) (e.k a u n ha), fun l r ha => (e.hd l r ha).elim fun r' h' => ⟨r', h_ne (ne_of_none ha h) h'⟩⟩
/-- the law's store at st: what is left of the script, a great number that is being used up, a count, a seed -/
def StoreAt (H : Hp) (st : Addr) : Prop := ∃ (l : Addr) (ns : List Int) (pos rest turn seed : Int), l ≠ st ∧ H st = some (.lst [.ref l, .int pos, .int rest, .int turn, .int seed]) ∧ H l = some (.lst (ns.map V.int)) ∧ 0 ≤ pos ∧ 0 ≤ rest
theorem StoreAt.same {H H' : Hp} {st : Addr} (s : StoreAt H st) (e : Same H H') : StoreAt H' st := by
  obtain ⟨l, ns, a, b, c, d, n, h1, h2, h3⟩ := s
  exact ⟨l, ns, a, b, c, d, n, e _ _ h1, e _ _ h2, h3⟩
theorem StoreAt.ne {H : Hp} {st p : Addr} (s : StoreAt H st) (h : H p = none) : p ≠ st := by
  obtain ⟨l, ns, a, b, c, d, n, h1, _⟩ := s
  exact fun z => by rw [z, h1] at h; cases h
/-- the script's list is not the one that H did not know -/
theorem StoreAt.mut {H H' : Hp} {st p : Addr} {o : HO} (s : StoreAt H st) (n : H p = none) (f : Fr st H H') (s' : StoreAt H' st) : StoreAt (upd H' p o) st := by
  obtain ⟨l, ns, a, b, c, d, n1, h1, h2, h3, h4⟩ := s
  obtain ⟨m, ms, a', b', c', d', m1, g1, g2, g3, g4⟩ := s'
  obtain ⟨r', e⟩ := f.hd _ _ h1
  rw [g1] at e
  cases e
  exact ⟨_, ms, a', b', c', d', m1, h_ne (ne_of_none h1 n) g1, h_ne (ne_of_none h2 n) g2, g3, g4⟩
theorem at_i {xs : List V} {j : Nat} {v : V} (h : xs[j]? = some v) : atI xs (j : Int) = some v := atI_nat h
theorem at_lit {xs : List V} {z : Int} {v : V} (j : Nat) (e : z = (j : Int)) (h : xs[j]? = some v) : atI xs z = some v := by
  rw [e]
  exact atI_nat h
theorem ix_lit {n : Nat} {z : Int} (j : Nat) (e : z = (j : Int)) (h0 : Nat.ble (j + 1) n = true) : ixN n z = some j := by
  have h := Nat.le_of_ble_eq_true h0
  subst e
  unfold ixN
  rw [if_pos (Int.natCast_nonneg j), if_pos (by omega)]
  rfl
theorem getV {ns : List Int} {i : Nat} (h : i < ns.length) : (ns.map V.int)[i]? = some (.int ns[i]) := by
  rw [List.getElem?_map, List.getElem?_eq_getElem h]
  rfl
theorem getV' {ns : List Int} {i : Nat} {x : V} (h : (ns.map V.int)[i]? = some x) : ∃ z, ns[i]? = some z ∧ x = .int z := by
  rw [List.getElem?_map] at h
  cases e : ns[i]? with
  | none => rw [e] at h; cases h
  | some z => rw [e] at h; exact ⟨z, rfl, (Option.some.inj h).symm⟩
theorem size_ok {n : Nat} (h : n ≤ 16777216) : n ≤ sizeLine := by rw [sizeLine_eq]; exact h
theorem size_lt {n : Nat} (h : n < 16777216) : n < sizeLine := by rw [sizeLine_eq]; exact h
end Vb
namespace Vb
open PySem PySem.Spec PyProof.Rows L2
/-! ### data -/
mutual
theorem dp_same {K : PySem.W.Frag} {H H' : Hp} (e : Same H H') : ∀ (d : PyData) (v : V), Dp K H v d → Dp K H' v d
  | .none, _, h => by cases h; exact .non
  | .bool b, _, h => by cases h; exact .bl b
  | .int i, _, h => by cases h; exact .int i
  | .str x, _, h => by cases h; exact .str x
  | .list ds, _, h => by
    cases h with
    | lst hs ha => exact .lst (e.seq hs) (dpa_same e ds _ ha)
  | .tuple ds, _, h => by
    cases h with
    | tup hs ha =>
      refine .tup ?_ (dpa_same e ds _ ha)
      rcases hs with (h | ⟨o, h⟩) | h
      · exact .inl (.inl (e _ _ h))
      · exact .inl (.inr ⟨o, e _ _ h⟩)
      · exact .inr h
  | .dict _, _, h => by cases h
theorem dpa_same {K : PySem.W.Frag} {H H' : Hp} (e : Same H H') : ∀ (ds : List PyData) (vs : List V), DpAll K H vs ds → DpAll K H' vs ds
  | [], _, h => by cases h; exact .nil
  | d :: ds, _, h => by
    cases h with
    | cons h1 h2 => exact .cons (dp_same e d _ h1) (dpa_same e ds _ h2)
end
theorem same_sqt {K : PySem.W.Frag} {H H' : Hp} {a : Addr} {xs : List V} (e : Same H H') (h : SqT K H a xs) : SqT K H' a xs := by
  rcases h with (h | ⟨o, h⟩) | h
  · exact .inl (.inl (e _ _ h))
  · exact .inl (.inr ⟨o, e _ _ h⟩)
  · exact .inr h
theorem dpa_len {K : PySem.W.Frag} {H : Hp} : ∀ {ds : List PyData} {vs : List V}, DpAll K H vs ds → vs.length = ds.length
  | [], _, h => by cases h; rfl
  | d :: ds, _, h => by
    cases h with
    | cons h1 h2 => rw [List.length_cons, List.length_cons, dpa_len h2]
theorem dpa_get {K : PySem.W.Frag} {H : Hp} : ∀ {ds : List PyData} {vs : List V} {i : Nat} {v : V}, DpAll K H vs ds → vs[i]? = some v → ∃ d, ds[i]? = some d ∧ Dp K H v d
  | [], _, i, v, h, e => by cases h; simp at e
  | d :: ds, _, 0, v, h, e => by
    cases h with
    | cons h1 h2 =>
      cases (Option.some.inj e)
      exact ⟨d, rfl, h1⟩
  | d :: ds, _, i + 1, v, h, e => by
    cases h with
    | cons h1 h2 =>
      obtain ⟨x, a, b⟩ := dpa_get (i := i) h2 (by simpa using e)
      exact ⟨x, by simpa using a, b⟩
theorem dpa_at {K : PySem.W.Frag} {H : Hp} : ∀ {ds : List PyData} {vs : List V} {i : Nat} {d : PyData}, DpAll K H vs ds → ds[i]? = some d → ∃ v, vs[i]? = some v ∧ Dp K H v d
  | [], _, i, d, h, e => by simp at e
  | x :: ds, _, 0, d, h, e => by
    cases h with
    | @cons v vs _ _ h1 h2 =>
      cases (Option.some.inj e)
      exact ⟨v, rfl, h1⟩
  | x :: ds, _, i + 1, d, h, e => by
    cases h with
    | cons h1 h2 =>
      obtain ⟨v, a, b⟩ := dpa_at (i := i) h2 (by simpa using e)
      exact ⟨v, by simpa using a, b⟩
theorem dpa_app {K : PySem.W.Frag} {H : Hp} : ∀ {ds es : List PyData} {vs us : List V}, DpAll K H vs ds → DpAll K H us es → DpAll K H (vs ++ us) (ds ++ es)
  | [], _, _, _, h, g => by cases h; exact g
  | d :: ds, es, _, us, h, g => by
    cases h with
    | cons h1 h2 => exact .cons h1 (dpa_app h2 g)
/-- ints as data -/
theorem dpa_ints {K : PySem.W.Frag} {H : Hp} : ∀ ns : List Int, DpAll K H (ns.map V.int) (ns.map PyData.int)
  | [] => .nil
  | n :: ns => .cons (.int n) (dpa_ints ns)
theorem dp_ints {K : PySem.W.Frag} {H : Hp} {a : Addr} {ns : List Int} (h : SqL K H a (ns.map V.int)) : Dp K H (.ref a) (.list (ns.map PyData.int)) := .lst h (dpa_ints ns)
/-- nested less than n deep, no list too long, no dicts -/
def DOk : Nat → PyData → Prop
  | 0, _ => False
  | n + 1, .list ds => ds.length ≤ 1000000 ∧ ∀ d ∈ ds, DOk n d
  | n + 1, .tuple ds => ds.length ≤ 1000000 ∧ ∀ d ∈ ds, DOk n d
  | _ + 1, .dict _ => False
  | _ + 1, _ => True
theorem dok_up : ∀ (n : Nat) (d : PyData), DOk n d → DOk (n + 1) d
  | 0, _, h => h.elim
  | n + 1, .list ds, h => ⟨h.1, fun d m => dok_up n d (h.2 d m)⟩
  | n + 1, .tuple ds, h => ⟨h.1, fun d m => dok_up n d (h.2 d m)⟩
  | n + 1, .dict _, h => h
  | n + 1, .none, _ => trivial
  | n + 1, .bool _, _ => trivial
  | n + 1, .int _, _ => trivial
  | n + 1, .str _, _ => trivial
theorem dok_ints {n : Nat} {ns : List Int} (h : ns.length ≤ 1000000) : DOk (n + 2) (.list (ns.map PyData.int)) := ⟨by rw [List.length_map]; exact h, fun d m => by
  obtain ⟨z, _, rfl⟩ := List.mem_map.mp m
  trivial⟩
/-- the type of a piece of data -/
def tyN : PyData → String
  | .none => "NoneType"
  | .bool _ => "bool"
  | .int _ => "int"
  | .str _ => "str"
  | .list _ => "list"
  | .tuple _ => "tuple"
  | .dict _ => "dict"
theorem dp_ty {K : PySem.W.Frag} {H : Hp} {v : V} {d : PyData} (h : Dp K H v d) : TyX K H v (.type (tyN d)) := by
  cases h with
  | non => exact .base .non
  | bl b => exact .base (.bl b)
  | int i => exact .base (.int i)
  | str x => exact .base (.str x)
  | lst hs _ =>
    rcases hs with (h | ⟨o, h⟩) | h
    · exact .base (.lst h)
    · exact .base (.frz h)
    · obtain ⟨o, its, n, h, c, _⟩ := h
      exact .kList h c
  | tup hs _ =>
    rcases hs with (h | ⟨o, h⟩) | h
    · exact .base (.tup h)
    · exact .fTuple h
    · obtain ⟨o, its, n, h, c, _⟩ := h
      exact .kTuple h c
def isB : PyData → Bool | .bool _ => true | _ => false
def isI : PyData → Bool | .bool _ => true | .int _ => true | _ => false
def isS : PyData → Bool | .str _ => true | _ => false
def isL : PyData → Bool | .list _ => true | _ => false
def isT : PyData → Bool | .tuple _ => true | _ => false
theorem r_isi {K : PySem.W.Frag} {H : Hp} {v : V} {d : PyData} {Q : VK} {n : String} {b : Bool} (h : Dp K H v d) (e : kitB (tyN d) n = some b) (q : Q (.bl b) H) : rIsi K [v, .ty n] H Q := ⟨v, .ty n, _, _, b, rfl, .ty n, dp_ty h, kit_ty e, q⟩
theorem r_isB {K : PySem.W.Frag} {H : Hp} {v : V} {d : PyData} {Q : VK} {b : Bool} (h : Dp K H v d) (e : isB d = b) (q : Q (.bl b) H) : rIsi K [v, .ty "bool"] H Q := r_isi h (by subst e; cases h <;> (simp only [tyN, isB]; decide +kernel)) q
theorem r_isI {K : PySem.W.Frag} {H : Hp} {v : V} {d : PyData} {Q : VK} {b : Bool} (h : Dp K H v d) (e : isI d = b) (q : Q (.bl b) H) : rIsi K [v, .ty "int"] H Q := r_isi h (by subst e; cases h <;> (simp only [tyN, isI]; decide +kernel)) q
theorem r_isS {K : PySem.W.Frag} {H : Hp} {v : V} {d : PyData} {Q : VK} {b : Bool} (h : Dp K H v d) (e : isS d = b) (q : Q (.bl b) H) : rIsi K [v, .ty "str"] H Q := r_isi h (by subst e; cases h <;> (simp only [tyN, isS]; decide +kernel)) q
theorem r_isL {K : PySem.W.Frag} {H : Hp} {v : V} {d : PyData} {Q : VK} {b : Bool} (h : Dp K H v d) (e : isL d = b) (q : Q (.bl b) H) : rIsi K [v, .ty "list"] H Q := r_isi h (by subst e; cases h <;> (simp only [tyN, isL]; decide +kernel)) q
theorem r_isT {K : PySem.W.Frag} {H : Hp} {v : V} {d : PyData} {Q : VK} {b : Bool} (h : Dp K H v d) (e : isT d = b) (q : Q (.bl b) H) : rIsi K [v, .ty "tuple"] H Q := r_isi h (by subst e; cases h <;> (simp only [tyN, isT]; decide +kernel)) q
theorem not_non {K : PySem.W.Frag} {H : Hp} {v : V} {d : PyData} (h : Dp K H v d) (hd : d ≠ .none) : ¬ v = .non := by
  cases h with
  | non => exact absurd rfl hd
  | _ => exact fun c => nomatch c
theorem is_non {K : PySem.W.Frag} {H : Hp} {v : V} (h : Dp K H v .none) : v = .non := by
  cases h
  rfl
/-! ### all but some objects -/
def offs (Z : List Addr) (H : Hp) : Hp := fun b => if b ∈ Z then none else H b
theorem offs_of {Z : List Addr} {H : Hp} {b : Addr} {o : HO} (n : b ∉ Z) (h : H b = some o) : offs Z H b = some o := by
  unfold offs
  rw [if_neg n]
  exact h
theorem offs_some {Z : List Addr} {H : Hp} {b : Addr} {o : HO} (h : offs Z H b = some o) : b ∉ Z ∧ H b = some o := by
  unfold offs at h
  split at h
  · cases h
  · exact ⟨‹_›, h⟩
theorem offs_sub {Z : List Addr} {H : Hp} : Same (offs Z H) H := fun _ _ h => (offs_some h).2
theorem offs_nil {H : Hp} : Same H (offs [] H) := fun _ _ h => offs_of (by simp) h
theorem offs_same {Z : List Addr} {H H' : Hp} (e : Same H H') : Same (offs Z H) (offs Z H') := fun _ _ h => offs_of (offs_some h).1 (e _ _ (offs_some h).2)
theorem offs_more {Z : List Addr} {H : Hp} {D : Addr} : Same (offs (D :: Z) H) (offs Z H) := fun _ _ h => offs_of (fun m => (offs_some h).1 (List.mem_cons_of_mem _ m)) (offs_some h).2
theorem offs_new {Z : List Addr} {H : Hp} {D : Addr} (n : H D = none) : Same (offs Z H) (offs (D :: Z) H) := fun b o h => by
  have ⟨h1, h2⟩ := offs_some h
  refine offs_of (fun m => ?_) h2
  rcases List.mem_cons.mp m with e | m
  · rw [e, n] at h2; cases h2
  · exact h1 m
theorem offs_upd {Z : List Addr} {H : Hp} {D : Addr} {o : HO} : Same (offs (D :: Z) H) (offs (D :: Z) (upd H D o)) := fun b u h => by
  have ⟨h1, h2⟩ := offs_some h
  exact offs_of h1 (h_ne (fun e => h1 (by rw [e]; exact List.mem_cons_self)) h2)
theorem offs_fr {Z : List Addr} {st : Addr} {H H' : Hp} (e : Fr st H H') (m : st ∈ Z) : Same (offs Z H) (offs Z H') := fun b o h => by
  have ⟨h1, h2⟩ := offs_some h
  exact offs_of h1 (e.k b o (fun z => h1 (by rw [z]; exact m)) h2)
/-- all of Z is tracked -/
def Trk (Z : List Addr) (H : Hp) : Prop := ∀ z ∈ Z, ∃ o, H z = some o
theorem Trk.same {Z : List Addr} {H H' : Hp} (t : Trk Z H) (e : Same H H') : Trk Z H' := fun z m => by
  obtain ⟨o, h⟩ := t z m
  exact ⟨o, e _ _ h⟩
theorem Trk.new {Z : List Addr} {H : Hp} {D : Addr} (t : Trk Z H) (n : H D = none) : D ∉ Z := fun m => by
  obtain ⟨o, h⟩ := t D m
  rw [n] at h
  cases h
theorem Trk.nil {H : Hp} : Trk [] H := fun _ m => by cases m
theorem Trk.one {H : Hp} {a : Addr} {o : HO} (h : H a = some o) : Trk [a] H := fun z m => by
  cases List.mem_singleton.mp m
  exact ⟨o, h⟩
theorem dp_off {K : PySem.W.Frag} {Z : List Addr} {H : Hp} {v : V} {d : PyData} (h : Dp K (offs Z H) v d) : Dp K H v d := dp_same offs_sub _ _ h
theorem dp_lst {K : PySem.W.Frag} {H : Hp} {a : Addr} {xs : List V} {ds : List PyData} (h : H a = some (.lst xs)) (g : DpAll K H xs ds) : Dp K H (.ref a) (.list ds) := .lst (sq_of h) g
theorem dp_tup {K : PySem.W.Frag} {H : Hp} {a : Addr} {xs : List V} {ds : List PyData} (h : H a = some (.tup xs)) (g : DpAll K H xs ds) : Dp K H (.ref a) (.tuple ds) := .tup (st_of h) g
end Vb
namespace Vb
open PySem PySem.Spec PyProof.Rows L2
/-! ### range(a, b) of any size that has no turn -/
theorem turn_none {P : Program} {w : World} {K : PySem.W.Frag} {tg : Expr} (it : Addr) (lo : Int) : Turn P w K tg (Itr lo 0) [it] it (fun _ h => ∃ x left step, left ≤ 0 ∧ IsLongIter h it x left step) where
  mem := List.mem_singleton.mpr rfl
  obj := fun i h ⟨x, l, c, _, st⟩ b hb => by
    cases List.mem_singleton.mp hb
    exact ⟨_, st, fun v z => by cases (show Data.fields _ = Data.cell v from z)⟩
  keep := fun i h h' ⟨x, l, c, hl, st⟩ k => ⟨x, l, c, hl, k it (List.mem_singleton.mpr rfl) _ st⟩
  item := fun X _ _ _ _ i pins s σ H E _ _ _ hg => absurd (show i < 0 from hg) (Nat.not_lt_zero i)
  done := by
    intro X hP hw hK hc i pins s σ H E I hf st _
    obtain ⟨x, l, c, hl, st⟩ := st
    subst hP hw hK
    have q := hf it (List.mem_singleton.mpr rfl)
    exact wpAny_pyNext_long_end (I.ok.hd hc) st hl fun h' eb => ⟨rfl, I.turned (t' := s.toks) (fun b o hb e => eb b o hb e) q.1 q.2.1 q.2.2.2.1 q.2.2.2.2.1 q.2.2.2.2.2⟩
  self := fun _ _ _ _ _ ⟨_, _, _, _, st⟩ h => wpAny_pyIter_longiter st h
def iRngW (ta : TA) : TI := fun σ H R => ta σ H fun vs H1 => ∃ i j : Int, vs = [.int i, .int j] ∧ ((-(2 ^ 62) ≤ i ∧ i < 2 ^ 62 ∧ -(2 ^ 62) ≤ j ∧ j < 2 ^ 62) ∨ j ≤ i) ∧ R (Itr i (j - i).toNat) H1
section
variable {X : Cx} {tg : Expr}
theorem range_none {pins : List (Addr × Obj)} {σ : L2.St} {H : Hp} {s : Shared} {R : It → Hp → Prop} {E : Value → Shared → Prop} {lo hi : Int} {t u v : Tok} {tk : Nat} (I : Inv X pins σ H s) (hle : hi ≤ lo) (hs : Builtin.Range.small lo hi 1 = false)
    (q : R (Itr lo 0) H) : wpAny (model X.prog X.w) X.A (pyIter (.ref s.heap.objs.size)) (PIE X pins σ tg R) E { s with heap := s.heap.push { cls := .type "range", data := .fields #[.int lo t, .int hi u, .int 1 v] }, toks := tk } := by
  refine wpAny_pyIter_longrange (IsRange.new ..) hs ?_
  have I1 : Inv X pins σ H { s with heap := s.heap.push { cls := .type "range", data := .fields #[.int lo t, .int hi u, .int 1 v] }, toks := tk } := I.kept fun b o e => Heap.get?_push_of_some _ e
  have z : Builtin.Range.rangeSize lo hi 1 ≤ 0 := by rw [rangeSize_one, if_neg (by omega)]; exact Int.le_refl 0
  refine ⟨_, [_], _, Itr lo 0, H, rfl, I1.kept (t' := tk) fun b o e => Heap.get?_push_of_some _ e, turn_none _ lo, ⟨_, _, _, z, Heap.get?_push_size _ rfl⟩, fun b hb => ?_, q⟩
  cases List.mem_singleton.mp hb
  exact I1.fpOk (Nat.le_refl _) (I1.hok.fresh (Nat.le_refl _))
theorem pi_rangeW {a b : Expr} {ta : TA} {p pos : Pos} (hg : Gl X "range") (hm : X.mg "range" = none) (ha : PA X [a, b] ta) (hs : starEach [a, b] X.env = [(false, eval a X.env), (false, eval b X.env)] := by rfl) (hs2 : starEach [b] X.env = [(false, eval b X.env)] := by rfl) :
    PI X tg (.Call (.Name "range" p) [a, b] [] pos) (iRngW ta) := by
  refine ⟨fun pins s σ H R I h => ?_⟩
  refine Call_ (ld_blt I hg hm boot_range (PyProof.Rows.callWith_type1 (thn (ha.run pos pins s σ H _ I h) fun us s1 hh => ?_) (by rw [hs, hs2]) (by rw [hs2]; rfl)))
  obtain ⟨vs, H1, I1, r1, i, j, ev, hb, q⟩ := hh
  subst ev
  obtain ⟨u1, u2, rfl, ⟨t1, rfl⟩, ⟨t2, rfl⟩⟩ := vals2 r1
  refine call_range_2 ?_
  rcases hb with hb | hb
  · exact range_it I1 hb.1 hb.2.1 hb.2.2.1 hb.2.2.2 q
  · have e : (j - i).toNat = 0 := by omega
    rw [e] at q
    cases hsm : Builtin.Range.small i j 1 with
    | false => exact range_none I1 hb hsm q
    | true =>
      refine wpAny_pyIter_range (IsRange.new ..) hsm ?_
      have I2 := I1.kept (h' := s1.heap.push { cls := .type "range", data := .fields #[.int i t1, .int j t2, .int 1 s1.toks] }) (t' := s1.toks + 1) fun b o e => Heap.get?_push_of_some _ e
      have z : Builtin.Range.rangeSize i j 1 = 0 := by rw [rangeSize_one, if_neg (by omega)]
      refine ⟨_, [_], _, Itr i 0, H1, rfl, I2.kept fun b o e => Heap.get?_push_of_some _ e, turn_range _ i 0, ?_, fun b hb => ?_, q⟩
      · show IsRangeIter _ _ (i + ((0 : Nat) : Int) * 1) (((0 : Nat) : Int) - ((0 : Nat) : Int)) 1
        rw [show i + ((0 : Nat) : Int) * 1 = i by omega, show ((0 : Nat) : Int) - ((0 : Nat) : Int) = Builtin.Range.rangeSize i j 1 by omega]
        exact Heap.get?_push_size _ rfl
      · cases List.mem_singleton.mp hb
        exact I2.fpOk (Nat.le_refl _) (I2.hok.fresh (Nat.le_refl _))
end
section
variable {K : PySem.W.Frag} {σ : L2.St} {H : Hp} {te : TE} {ts : TS} {nx : L2.St → Hp → Prop} {rt : VK}
theorem r_rngW {ta : TA} {R : It → Hp → Prop} (h : ta σ H fun vs H1 => ∃ i j : Int, vs = [.int i, .int j] ∧ ((-(2 ^ 62) ≤ i ∧ i < 2 ^ 62 ∧ -(2 ^ 62) ≤ j ∧ j < 2 ^ 62) ∨ j ≤ i) ∧ R (Itr i (j - i).toNat) H1) : iRngW ta σ H R := h
theorem f_rngW {lo hi : Int} {g : TG} (b : (-(2 ^ 62) ≤ lo ∧ lo < 2 ^ 62 ∧ -(2 ^ 62) ≤ hi ∧ hi < 2 ^ 62) ∨ hi ≤ lo) (q : ForW (Itr lo (hi - lo).toNat) g ts nx rt σ H) : ∃ i j : Int, [V.int lo, V.int hi] = [.int i, .int j] ∧ ((-(2 ^ 62) ≤ i ∧ i < 2 ^ 62 ∧ -(2 ^ 62) ≤ j ∧ j < 2 ^ 62) ∨ j ≤ i) ∧ ForW (Itr i (j - i).toNat) g ts nx rt σ H := ⟨lo, hi, rfl, b, q⟩
theorem c_rngW {lo hi : Int} {g : TG} {tt : TT} {vs : List Nat} {σ' : L2.St} {Q' : Addr → Hp → Prop} (b : (-(2 ^ 62) ≤ lo ∧ lo < 2 ^ 62 ∧ -(2 ^ 62) ≤ hi ∧ hi < 2 ^ 62) ∨ hi ≤ lo) (q : ∀ D, H D = none → LcW (Itr lo (hi - lo).toNat) g tt te vs σ' H D (Q' D)) : ∃ i j : Int, [V.int lo, V.int hi] = [.int i, .int j] ∧ ((-(2 ^ 62) ≤ i ∧ i < 2 ^ 62 ∧ -(2 ^ 62) ≤ j ∧ j < 2 ^ 62) ∨ j ≤ i) ∧ ∀ D, H D = none → LcW (Itr i (j - i).toNat) g tt te vs σ' H D (Q' D) := ⟨lo, hi, rfl, b, q⟩
end
/-! ### primes -/
def isP (n : Int) : Bool := decide (2 ≤ n) && (List.range n.toNat).all fun d => decide (d < 2) || decide (n % (d : Int) ≠ 0)
def Prm (n : Int) : Prop := 2 ≤ n ∧ ∀ d : Int, 2 ≤ d → d < n → n % d ≠ 0
theorem isP_iff (n : Int) : isP n = true ↔ Prm n := by
  unfold isP Prm
  rw [Bool.and_eq_true, decide_eq_true_eq, List.all_eq_true]
  refine ⟨fun ⟨h1, h2⟩ => ⟨h1, fun d a b => ?_⟩, fun ⟨h1, h2⟩ => ⟨h1, fun d m => ?_⟩⟩
  · have z := h2 d.toNat (List.mem_range.mpr (by omega))
    rw [Bool.or_eq_true, decide_eq_true_eq, decide_eq_true_eq] at z
    rcases z with z | z
    · omega
    · rwa [show ((d.toNat : Nat) : Int) = d by omega] at z
  · have m := List.mem_range.mp m
    rw [Bool.or_eq_true, decide_eq_true_eq, decide_eq_true_eq]
    by_cases c : d < 2
    · exact .inl c
    · exact .inr (h2 d (by omega) (by omega))
/-- no divisor up to the root: none at all -/
theorem prm_root {n D : Int} (h2 : 2 ≤ n) (hD : 2 ≤ D) (hs : n < D * D) (h : ∀ d : Int, 2 ≤ d → d < D → n % d ≠ 0) : Prm n := by
  refine ⟨h2, fun d a b z => ?_⟩
  have hd : d * (n / d) = n := Int.mul_ediv_cancel' (Int.dvd_of_emod_eq_zero z)
  by_cases c : d < D
  · exact h d a c z
  · have e1 : n / d < D := by
      by_cases c2 : n / d < D
      · exact c2
      · exact absurd (Int.mul_le_mul (show D ≤ d by omega) (show D ≤ n / d by omega) (by omega) (by omega)) (by omega)
    have e2 : 2 ≤ n / d := by
      have p : 1 ≤ n / d := by
        by_cases c3 : n / d ≤ 0
        · have := Int.mul_nonpos_of_nonneg_of_nonpos (show 0 ≤ d by omega) c3
          omega
        · omega
      by_cases c4 : n / d = 1
      · rw [c4] at hd; omega
      · omega
    refine h (n / d) e2 e1 ?_
    have e3 : n % (n / d) = 0 := by
      have : (d * (n / d)) % (n / d) = 0 := Int.mul_emod_left ..
      rwa [hd] at this
    exact e3
theorem not_prm {n d : Int} (h2 : 2 ≤ d) (h : d < n) (z : n % d = 0) : ¬ Prm n := fun p => p.2 d h2 h z
/-- the primes up to a limit -/
def upto (n : Int) : List Int := ((List.range (n + 1).toNat).map Int.ofNat).filter isP
theorem mem_upto {n p : Int} : p ∈ upto n ↔ Prm p ∧ p ≤ n := by
  unfold upto
  rw [List.mem_filter, isP_iff, List.mem_map]
  refine ⟨fun ⟨⟨k, m, e⟩, q⟩ => ⟨q, ?_⟩, fun ⟨q, l⟩ => ⟨⟨p.toNat, ?_, ?_⟩, q⟩⟩
  · have := List.mem_range.mp m
    have e' : (k : Int) = p := e
    omega
  · exact List.mem_range.mpr (by have := q.1; omega)
  · show ((p.toNat : Nat) : Int) = p
    have := q.1
    omega
theorem upto_low {n : Int} (h : n < 2) : upto n = [] := by
  refine List.eq_nil_iff_forall_not_mem.mpr fun p m => ?_
  obtain ⟨q, l⟩ := mem_upto.mp m
  have := q.1
  omega
theorem upto_next {n : Int} (h : 0 ≤ n + 1) : upto (n + 1) = upto n ++ (if isP (n + 1) then [n + 1] else []) := by
  unfold upto
  rw [show (n + 1 + 1).toNat = (n + 1).toNat + 1 by omega, List.range_succ, List.map_append, List.filter_append]
  congr 1
  rw [List.map_cons, List.map_nil, show Int.ofNat (n + 1).toNat = n + 1 by show (((n + 1).toNat : Nat) : Int) = n + 1; omega]
  rw [List.filter_cons, List.filter_nil]
theorem upto_len {n : Int} : (upto n).length ≤ (n + 1).toNat := by
  unfold upto
  refine Nat.le_trans (List.length_filter_le _ _) ?_
  rw [List.length_map, List.length_range]
  exact Nat.le_refl _
end Vb
namespace Vb
open PySem PySem.Spec PyProof.Rows L2
theorem least_prime : ∀ (k : Nat) (n d : Int), d.toNat ≤ k → 2 ≤ d → n % d = 0 → ∃ q, Prm q ∧ q ≤ d ∧ n % q = 0
  | 0, n, d, h, h2, _ => by omega
  | k + 1, n, d, h, h2, z => by
    by_cases p : Prm d
    · exact ⟨d, p, Int.le_refl _, z⟩
    · have ⟨e, e1, e2, e3⟩ : ∃ e : Int, 2 ≤ e ∧ e < d ∧ d % e = 0 := by
        refine Classical.byContradiction fun c => p ⟨h2, fun e a b y => c ⟨e, a, b, y⟩⟩
      have z2 : n % e = 0 := Int.emod_eq_zero_of_dvd (Int.dvd_trans (Int.dvd_of_emod_eq_zero e3) (Int.dvd_of_emod_eq_zero z))
      obtain ⟨q, a, b, c⟩ := least_prime k n e (by omega) e1 z2
      exact ⟨q, a, by omega, c⟩
/-- a number that no smaller prime divides is one -/
theorem prm_of {n : Int} (h2 : 2 ≤ n) (h : ∀ q, Prm q → q < n → n % q ≠ 0) : Prm n := ⟨h2, fun d a b z => by
  obtain ⟨q, p, l, y⟩ := least_prime d.toNat n d (Nat.le_refl _) a z
  exact h q p (by omega) y⟩
theorem upto_sorted (n : Int) : (upto n).Pairwise (· < ·) := by
  unfold upto
  refine List.Pairwise.filter _ (List.pairwise_map.mpr ?_)
  refine List.Pairwise.imp (fun {a b} h => ?_) List.pairwise_lt_range
  show (a : Int) < (b : Int)
  omega
theorem sorted_ahead : ∀ {xs : List Int} {j : Nat} {p q : Int}, xs.Pairwise (· < ·) → xs[j]? = some p → q ∈ xs → q < p → ∃ k, k < j ∧ xs[k]? = some q
  | [], j, p, q, _, _, m, _ => by cases m
  | x :: xs, 0, p, q, s, e, m, l => by
    cases (Option.some.inj e)
    rcases List.mem_cons.mp m with rfl | m
    · omega
    · have := (List.pairwise_cons.mp s).1 q m
      omega
  | x :: xs, j + 1, p, q, s, e, m, l => by
    rcases List.mem_cons.mp m with rfl | m
    · exact ⟨0, by omega, rfl⟩
    · obtain ⟨k, a, b⟩ := sorted_ahead (List.pairwise_cons.mp s).2 (by simpa using e) m l
      exact ⟨k + 1, by omega, by simpa using b⟩
theorem rgc_pos {i j c : Int} (hc : 0 < c) (hc2 : c < 1073741824) (hi : -1000000000 ≤ i ∧ i ≤ 1000000000) (hj : -1000000000 ≤ j ∧ j ≤ 1000000000) : RgC i j c (Builtin.Range.rangeSize i j c).toNat := by
  have hr : Builtin.Range.rangeSize i j c = if i < j then (j - i - 1) / c + 1 else 0 := by
    unfold Builtin.Range.rangeSize
    rw [if_pos (by omega)]
  have h0 : 0 ≤ Builtin.Range.rangeSize i j c := by
    rw [hr]
    split
    · have := Int.ediv_nonneg (show 0 ≤ j - i - 1 by omega) (show 0 ≤ c by omega)
      omega
    · omega
  have h1 : Builtin.Range.rangeSize i j c ≤ 2000000001 := by
    rw [hr]
    split
    · have := Int.ediv_le_self c (show 0 ≤ j - i - 1 by omega)
      omega
    · omega
  refine ⟨by omega, by omega, ?_, by omega⟩
  unfold Builtin.Range.small
  simp only [Builtin.Range.rangeFitsLong, Bool.and_eq_true, Bool.or_eq_true, decide_eq_true_eq, beq_iff_eq, hc, if_true]
  exact ⟨⟨⟨⟨⟨by omega, by omega⟩, by omega, by omega⟩, by omega, by omega⟩, by omega, by omega⟩, .inr ⟨by omega, by omega⟩⟩
section
variable {K : PySem.W.Frag} {σ : L2.St} {H : Hp} {Q : VK} {te ta tb : TE} {ts tu : TS} {nx bk ct : L2.St → Hp → Prop} {rt : VK}
/-- what stands behind ts is shown once, from Mid -/
theorem r_cut (Mid : L2.St → Hp → Prop) (h : ts (Ends.mk Mid rt bk ct) σ H) (k : ∀ σ' H', Mid σ' H' → tu (Ends.mk nx rt bk ct) σ' H') : Evl.tCut ts tu (Ends.mk nx rt bk ct) σ H := ⟨Mid, h, k⟩
theorem r_eqB {a b : Bool} (q : Q (.bl (a == b)) H) : rEq (.bl a) (.bl b) H Q := ⟨rfl, by
  have e : decide (V.bl a = V.bl b) = (a == b) := by cases a <;> cases b <;> rfl
  rw [e]
  exact q⟩
theorem r_eqBs {a : Bool} (q : Q (.bl true) H) : rEq (.bl a) (.bl a) H Q := r_eqB (by rw [beq_self_eq_true]; exact q)
theorem r_neB {a b : Bool} (q : Q (.bl (!(a == b))) H) : rNe (.bl a) (.bl b) H Q := ⟨rfl, by
  have e : decide (V.bl a = V.bl b) = (a == b) := by cases a <;> cases b <;> rfl
  rw [e]
  exact q⟩
theorem r_eqS {a b : Str} (q : Q (.bl (decide (a = b))) H) : rEq (.str a) (.str b) H Q := ⟨rfl, by
  have e : decide (V.str a = V.str b) = decide (a = b) := by
    by_cases h : a = b
    · rw [decide_eq_true h, decide_eq_true (congrArg V.str h)]
    · rw [decide_eq_false h, decide_eq_false (fun z => h (V.str.inj z))]
  rw [e]
  exact q⟩
theorem r_neS {a b : Str} (q : Q (.bl (!decide (a = b))) H) : rNe (.str a) (.str b) H Q := ⟨rfl, by
  have e : decide (V.str a = V.str b) = decide (a = b) := by
    by_cases h : a = b
    · rw [decide_eq_true h, decide_eq_true (congrArg V.str h)]
    · rw [decide_eq_false h, decide_eq_false (fun z => h (V.str.inj z))]
  rw [e]
  exact q⟩
theorem r_revL (h : te σ H fun x H1 => ∃ a xs, x = .ref a ∧ SqL K H1 a xs ∧ ∀ p, H1 p = none → Q (.ref p) (upd H1 p (.lst xs.reverse))) : tRevL K te σ H Q := h
theorem r_revv {a : Addr} {xs : List V} {R : Addr → Hp → Prop} (h : SqL K H a xs) (q : ∀ p, H p = none → R p (upd H p (.lst xs.reverse))) : ∃ b ys, V.ref a = .ref b ∧ SqL K H b ys ∧ ∀ p, H p = none → R p (upd H p (.lst ys.reverse)) := ⟨a, xs, rfl, h, q⟩
theorem r_sl {r : V → Option Int → Option Int → Hp → VK → Prop} {tl th : TO} (h : te σ H fun x H1 => tl σ H1 fun l H2 => th σ H2 fun u H3 => r x l u H3 Q) : tSl r te tl th σ H Q := h
theorem r_noP {QO : Option Int → Hp → Prop} (h : QO none H) : tNoPart σ H QO := h
theorem r_part {QO : Option Int → Hp → Prop} (h : te σ H fun x H1 => ∃ i, x = .int i ∧ QO (some i) H1) : tPart te σ H QO := h
theorem r_partv {i : Int} {R : Option Int → Hp → Prop} (h : R (some i) H) : ∃ j, V.int i = .int j ∧ R (some j) H := ⟨i, rfl, h⟩
theorem r_slL {a : Addr} {xs : List V} {lo hi : Option Int} (h : SqL K H a xs) (q : ∀ p, H p = none → Q (.ref p) (upd H p (.lst (cutV xs lo hi)))) : rSlL K (.ref a) lo hi H Q := ⟨a, xs, rfl, h, q⟩
theorem r_rep {a : Addr} {xs : List V} {k : Int} (h : H a = some (.lst xs)) (b1 : -(2 ^ 63) ≤ k) (b2 : k < 2 ^ 63) (b3 : xs.length * k.toNat ≤ sizeLine) (q : ∀ p, H p = none → Q (.ref p) (upd H p (.lst ((List.replicate k.toNat xs).flatten)))) : rRep (.ref a) (.int k) H Q := by
  refine ⟨a, k, xs, rfl, rfl, h, b1, b2, b3, ?_⟩
  exact q
end
theorem ix_of {n : Nat} {z : Int} (j : Nat) (e : z = (j : Int)) (h : j < n) : ixN n z = some j := by
  subst e
  unfold ixN
  rw [if_pos (Int.natCast_nonneg j), if_pos (by omega)]
  rfl
theorem rs_lt {i j c : Int} (hc : 0 < c) {k : Nat} (h : k < (Builtin.Range.rangeSize i j c).toNat) : i + (k : Int) * c < j := by
  unfold Builtin.Range.rangeSize at h
  rw [if_pos (by omega)] at h
  split at h
  · have h1 : (k : Int) ≤ (j - i - 1) / c := by omega
    have h2 := (Int.le_ediv_iff_mul_le hc).mp h1
    omega
  · exact absurd h (Nat.not_lt_zero k)
theorem rs_end {i j c : Int} (hc : 0 < c) : j ≤ i + ((Builtin.Range.rangeSize i j c).toNat : Int) * c := by
  unfold Builtin.Range.rangeSize
  rw [if_pos (by omega)]
  split
  · have h0 := Int.ediv_nonneg (show 0 ≤ j - i - 1 by omega) (show 0 ≤ c by omega)
    have h1 : ((((j - i - 1) / c + 1).toNat : Nat) : Int) = (j - i - 1) / c + 1 := by omega
    rw [h1, Int.add_mul, Int.one_mul]
    have h2 := Int.lt_ediv_add_one_mul_self (j - i - 1) hc
    rw [Int.add_mul, Int.one_mul] at h2
    omega
  · show j ≤ i + ((0 : Nat) : Int) * c
    omega
/-- a row of marks -/
def marks (N : Nat) (f : Nat → Bool) : List V := (List.range N).map fun m => V.bl (f m)
theorem marks_len (N : Nat) (f : Nat → Bool) : (marks N f).length = N := by
  unfold marks
  rw [List.length_map, List.length_range]
theorem marks_get {N : Nat} {f : Nat → Bool} {j : Nat} (h : j < N) : (marks N f)[j]? = some (.bl (f j)) := by
  unfold marks
  rw [List.getElem?_map, List.getElem?_range h]
  rfl
theorem marks_set {N : Nat} {f : Nat → Bool} {j : Nat} {b : Bool} : (marks N f).set j (.bl b) = marks N (fun m => if m = j then b else f m) := by
  refine List.ext_getElem? fun k => ?_
  by_cases hk : k < N
  · by_cases e : k = j
    · subst e
      rw [List.getElem?_set_self (by rw [marks_len]; exact hk), marks_get hk, if_pos rfl]
    · rw [List.getElem?_set_ne (Ne.symm e), marks_get hk, marks_get hk, if_neg e]
  · rw [List.getElem?_eq_none (by rw [List.length_set, marks_len]; omega), List.getElem?_eq_none (by rw [marks_len]; omega)]
theorem marks_rep (k : Nat) (b : Bool) : (List.replicate k [V.bl b]).flatten = marks k (fun _ => b) := by
  refine List.ext_getElem? fun j => ?_
  have e : (List.replicate k [V.bl b]).flatten = List.replicate k (V.bl b) := by
    induction k with
    | zero => rfl
    | succ k ih => rw [List.replicate_succ, List.flatten_cons, ih]; rfl
  rw [e]
  by_cases hk : j < k
  · rw [List.getElem?_replicate, if_pos hk, marks_get hk]
  · rw [List.getElem?_eq_none (by rw [List.length_replicate]; omega), List.getElem?_eq_none (by rw [marks_len]; omega)]
theorem mul_up {m n : Int} (hn : 0 < n) (h : n < m) (z : m % n = 0) : 2 * n ≤ m := by
  have e : n * (m / n) = m := Int.mul_ediv_cancel' (Int.dvd_of_emod_eq_zero z)
  have h2 : 2 ≤ m / n := by
    refine Int.not_lt.mp fun h3 => ?_
    have h4 : n * (m / n) ≤ n * 1 := Int.mul_le_mul_of_nonneg_left (by omega) (by omega)
    omega
  have h5 : n * 2 ≤ n * (m / n) := Int.mul_le_mul_of_nonneg_left h2 (by omega)
  omega
/-- a multiple below the next one but some -/
theorem mul_between {n m : Int} {k : Nat} (hn : 0 < n) (z : m % n = 0) : m < 2 * n + ((k + 1 : Nat) : Int) * n ↔ m < 2 * n + (k : Int) * n ∨ m = 2 * n + (k : Int) * n := by
  have e : n * (m / n) = m := Int.mul_ediv_cancel' (Int.dvd_of_emod_eq_zero z)
  have ek : ((k + 1 : Nat) : Int) * n = (k : Int) * n + n := by
    rw [show ((k + 1 : Nat) : Int) = (k : Int) + 1 by omega, Int.add_mul, Int.one_mul]
  rw [ek]
  refine ⟨fun h => ?_, fun h => by omega⟩
  by_cases c : m < 2 * n + (k : Int) * n
  · exact .inl c
  · refine .inr ?_
    have h1 : m / n < (k : Int) + 3 := by
      refine Int.not_le.mp fun h3 => ?_
      have h4 : n * ((k : Int) + 3) ≤ n * (m / n) := Int.mul_le_mul_of_nonneg_left h3 (by omega)
      have h5 : n * ((k : Int) + 3) = (k : Int) * n + 3 * n := by rw [Int.mul_add, Int.mul_comm n (k : Int), Int.mul_comm n 3]
      omega
    have h2 : (k : Int) + 2 ≤ m / n := by
      refine Int.not_lt.mp fun h3 => ?_
      have h4 : n * (m / n) ≤ n * ((k : Int) + 1) := Int.mul_le_mul_of_nonneg_left (by omega) (by omega)
      have h5 : n * ((k : Int) + 1) = (k : Int) * n + n := by rw [Int.mul_add, Int.mul_comm n (k : Int), Int.mul_one]
      omega
    have h6 : m / n = (k : Int) + 2 := by omega
    rw [h6, Int.mul_add, Int.mul_comm n (k : Int)] at e
    omega
theorem upto_all (n : Int) : upto (n + 1) = upto n ++ (if isP (n + 1) then [n + 1] else []) := by
  by_cases h : 0 ≤ n + 1
  · exact upto_next h
  · have e : isP (n + 1) = false := by
      cases y : isP (n + 1) with
      | false => rfl
      | true => exact absurd ((isP_iff _).mp y).1 (by omega)
    rw [upto_low (by omega), upto_low (by omega), e]
    rfl
theorem cut_last (xs : List V) (v : V) : cutV (xs ++ [v]) none (some (-1)) = xs := by
  unfold cutV
  have e : HT.sIx (xs ++ [v]).length (xs ++ [v]).length (some (-1)) = xs.length := by
    show (if (-1 : Int) < 0 then ((-1 : Int) + ((xs ++ [v]).length : Int)).toNat else min (-1 : Int).toNat (xs ++ [v]).length) = xs.length
    rw [if_pos (show (-1 : Int) < 0 by decide), List.length_append]
    show ((-1 : Int) + ((xs.length + 1 : Nat) : Int)).toNat = xs.length
    omega
  rw [e, HT.sIx_none, List.drop_zero, Nat.sub_zero, List.take_left]
section
variable {K : PySem.W.Frag} {σ : L2.St} {H : Hp} {Q : VK}
theorem r_isBl {a b : Bool} (q : Q (.bl (decide (a = b))) H) : rIsB (.bl a) (.bl b) H Q := ⟨a, b, rfl, rfl, q⟩
theorem r_notBl {a b : Bool} (q : Q (.bl (!decide (a = b))) H) : rNotB (.bl a) (.bl b) H Q := ⟨a, b, rfl, rfl, q⟩
/-- an int among ints -/
theorem inV_ints (z : Int) (ns : List Int) : inV (.int z) (ns.map V.int) = decide (z ∈ ns) := by
  unfold inV
  rw [List.any_map]
  by_cases h : z ∈ ns
  · rw [decide_eq_true h, List.any_eq_true]
    exact ⟨z, h, by show eqV (.int z) (.int z) = true; simp [eqV]⟩
  · rw [decide_eq_false h, Bool.eq_false_iff]
    intro c
    obtain ⟨y, m, e⟩ := List.any_eq_true.mp c
    have e' : eqV (.int y) (.int z) = true := e
    have : y = z := by simpa [eqV] using e'
    exact h (this ▸ m)
theorem r_inL {a : Addr} {z : Int} {ns : List Int} (h : SqL K H a (ns.map V.int)) (q : Q (.bl (decide (z ∈ ns))) H) : rIn K false (.int z) (.ref a) H Q := by
  refine ⟨a, _, rfl, .inl h, rfl, ?_, ?_⟩
  · rw [List.all_eq_true]
    intro v m
    obtain ⟨y, _, rfl⟩ := List.mem_map.mp m
    rfl
  · rw [if_neg (by decide), inV_ints]
    exact q
theorem r_niL {a : Addr} {z : Int} {ns : List Int} (h : SqL K H a (ns.map V.int)) (q : Q (.bl (!decide (z ∈ ns))) H) : rIn K true (.int z) (.ref a) H Q := by
  refine ⟨a, _, rfl, .inl h, rfl, ?_, ?_⟩
  · rw [List.all_eq_true]
    intro v m
    obtain ⟨y, _, rfl⟩ := List.mem_map.mp m
    rfl
  · rw [if_pos rfl, inV_ints]
    exact q
end
theorem dn_mk {K : PySem.W.Frag} {mg : Str → Option Value} {x : Str} {st : Stmt} {ps : List Str} {f : Addr} {oc : Value} {od an : Option Addr} {osl : Array (Option Value)} {kV doc pm cdv ct : Value} (g : mg x = some (.ref f))
    (l : K.lookup f = some ⟨oc, od, .func (PySem.W.fnOf x x (defArgs st) (defBody st) (defScope st) .none kV doc pm an cdv ct), osl⟩) (c : PySem.W.codeIn K cdv x = true) (k : PySem.W.keepIn K (.ref f) = true)
    (b : ∀ (kV doc pm : Value) (an : Option Addr) (cdv ct : Value) (us : List Value), us.length = ps.length → bindArgs (PySem.W.fnOf x x (defArgs st) (defBody st) (defScope st) .none kV doc pm an cdv ct) ⟨us, []⟩ = pure (ps.zip us)) : Dn K mg x st ps f (PySem.W.fnOf x x (defArgs st) (defBody st) (defScope st) .none kV doc pm an cdv ct) :=
  ⟨fun_mk l c k, g, (fun_mk l c k).binds b⟩
theorem tok_mk {K : PySem.W.Frag} {h : Heap} {mg : Str → Option Value} {x : Str} {n : Int} {t : Tok} (KX : K.In h) (G : h.Ns mainGlobals mg) (a : PySem.W.nsIn K mainGlobals x = some (some (.int n t))) : ∃ t, mg x = some (.int n t) := ⟨t, PySem.W.mg_of KX G a⟩
end Vb
namespace Vb
open PySem PySem.Spec PyProof.Rows L2
/-! ### methods and makings that may raise: what they let out is taken at this state -/
section
variable {X : Cx} {CX : CXT} {k : Nat} {f C : Addr} {fd : FuncData} {ps : List Str} {sp : Sp} {E : L2.St → XK} {x m : Str} {p pos apos : Pos} {e o : Expr} {es : List Expr} {ta : TE} {t : TA}
def tMethP (C : Addr) (m : Str) (sp : Sp) (E : L2.St → XK) (ta : TE) (t : TA) : TE := fun σ H Q => ta σ H fun x H1 => ∃ a dx fs, x = .ref a ∧ H1 a = some (.ins C dx fs) ∧ fs.lookup m = none ∧ t σ H1 fun vs H2 => sp (x :: vs) H2 Q (E σ)
theorem pe_methP {pl : Sem Bool} (ho : PE X o ta) (c : Cls X.K C) (hm : Meth X.K C m f) (F : FnOk X.prog X.w X.K X.mg X.base CX k f fd ps sp) (hr : Room k X.A) (hb : Binds X.K fd ps []) (hx : ∀ σ, PassesAt CX X σ (E σ)) (ha : PA X (e :: es) t) (hst : starEach (e :: es) X.env = (false, eval e X.env) :: starEach es X.env := by rfl) (hpl : (backTo pos (starEach es X.env)).any (·.1) = false := by rfl)
    (ht : eval (.Call (.Attribute o m apos) (e :: es) [] pos) X.env = (do let ov ← eval o X.env; standAt apos.atName; let (f, first) ← holding [ov] (getMethod ov m pl); callWith pos f first (backTo pos (starEach (e :: es) X.env)) (backToKw pos (keywordEach [] X.env))) := by rfl) : PE X (.Call (.Attribute o m apos) (e :: es) [] pos) (tMethP C m sp E ta t) := ⟨fun pins s σ H Q I h => PySem.W.methodCall_KW (pl := pl) (thn (ho.run pins s σ H _ I h) fun u s1 z => by
    obtain ⟨x, H1, I1, rx, a, dx, fs, ex, ea, l, q⟩ := z
    subst ex
    obtain rfl : u = Value.ref a := rx
    exact getmeth_ok I1 ea c hm l (PySem.W.callWith_K (first := [.ref a]) (h₀ := X.base) I1.ok.mod.kin hm.kp (thn (ha.run pos pins s1 σ H1 _ I1 q) fun us s2 ⟨vs, H2, I2, r, q2⟩ => ⟨I2.kIn, run_fnS (us := .ref a :: us) (vs := .ref a :: vs) F hr hb (hx σ) I2 (.cons rfl r) q2⟩) hst hpl)) ht⟩
theorem pe_methP0 {pl : Sem Bool} (ho : PE X o ta) (c : Cls X.K C) (hm : Meth X.K C m f) (F : FnOk X.prog X.w X.K X.mg X.base CX k f fd ps sp) (hr : Room k X.A) (hb : Binds X.K fd ps []) (hx : ∀ σ, PassesAt CX X σ (E σ))
    (ht : eval (.Call (.Attribute o m apos) [] [] pos) X.env = (do let ov ← eval o X.env; standAt apos.atName; let (f, first) ← holding [ov] (getMethod ov m pl); callWith pos f first (backTo pos (starEach [] X.env)) (backToKw pos (keywordEach [] X.env))) := by rfl) : PE X (.Call (.Attribute o m apos) [] [] pos) (tMethP C m sp E ta tNil) := ⟨fun pins s σ H Q I h => PySem.W.methodCall_KW (pl := pl) (thn (ho.run pins s σ H _ I h) fun u s1 z => by
    obtain ⟨x, H1, I1, rx, a, dx, fs, ex, ea, l, q⟩ := z
    subst ex
    obtain rfl : u = Value.ref a := rx
    exact getmeth_ok I1 ea c hm l (PySem.W.callWith_K0 (first := [.ref a]) I1.kIn hm.kp (run_fnS (us := [.ref a]) (vs := [.ref a]) F hr hb (hx σ) I1 (.cons rfl .nil) q))) ht⟩
def tMakeP (C : Addr) (sp : Sp) (E : L2.St → XK) (t : TA) : TE := fun σ H Q => t σ H fun vs H1 => ∀ x dx, H1 x = none → H1 dx = none → dx ≠ x → sp (.ref x :: vs) (upd (upd H1 dx (.own x)) x (.ins C dx [])) (fun v H2 => v = .non ∧ Q (.ref x) H2) (E σ)
theorem run_makeP {pins : List (Addr × Obj)} {σ : L2.St} {H : Hp} {s : Shared} {Q : VK} {us : List Value} {vs : List V} {E' : XK} (M : Mk X.K C f) (F : FnOk X.prog X.w X.K X.mg X.base CX k f fd ps sp) (hr : Room (k + 1) X.A) (hb : Binds X.K fd ps []) (hx : PassesAt CX X σ E') (I : Inv X pins σ H s) (r : Vals vs us)
    (h : ∀ x dx, H x = none → H dx = none → dx ≠ x → sp (.ref x :: vs) (upd (upd H dx (.own x)) x (.ins C dx [])) (fun v H2 => v = .non ∧ Q (.ref x) H2) E') : wpAny (model X.prog X.w) X.A (call (.ref C) us) (EP X pins σ Q) X.xe s := by
  have I2 := Inv.made (C := C) I
  have hq := h (s.heap.objs.size + 1) s.heap.objs.size (I.hok.fresh (Nat.le_succ _)) (I.hok.fresh (Nat.le_refl _)) (Nat.ne_of_lt (Nat.lt_succ_self _))
  have r2 : Vals (V.ref (s.heap.objs.size + 1) :: vs) (Value.ref (s.heap.objs.size + 1) :: us) := .cons rfl r
  have hl : (Value.ref (s.heap.objs.size + 1) :: us).length = ps.length := by
    rw [← r2.length]
    exact F.len _ _ _ _ hq
  have b := hb _ (Value.ref (s.heap.objs.size + 1) :: us) I2.kIn (by rw [List.append_nil]; exact hl)
  rw [List.append_nil] at b
  refine wpAny_call (make_map (f := f) I.kIn M.makes M.init (beq_iff_eq.mp M.fn) (codeAny_mono (F.run _ X.stack _ _ ⟨Value.ref (s.heap.objs.size + 1) :: us, []⟩ _ _ _ E' (hr.make C us []) (I2.env0.make C us []) b r2 hq) fun r s' hq' => ?_))
  cases r with
  | error e => exact hx pins _ _ e s' I2 hq'
  | ok fl =>
    cases fl with
    | ret u =>
      have z := I2.after hq'
      obtain ⟨v, H', I3, rv, ev, q3⟩ := z
      subst ev
      exact ⟨rv, V.ref (s.heap.objs.size + 1), _, I3, rfl, q3⟩
    | next => exact hq'.elim
    | brk => exact hq'.elim
    | cont => exact hq'.elim
theorem pe_makeP (M : Mk X.K C f) (F : FnOk X.prog X.w X.K X.mg X.base CX k f fd ps sp) (hr : Room (k + 1) X.A) (hg : Gl X x) (hm : X.mg x = some (.ref C)) (hb : Binds X.K fd ps []) (hx : ∀ σ, PassesAt CX X σ (E σ)) (ha : PA X (e :: es) t) (hdb : (x == ("__debug__" : Str)) = false := by decide)
    (he : starEach (e :: es) X.env = (false, eval e X.env) :: starEach es X.env := by rfl) (hpl : (backTo pos (starEach es X.env)).any (·.1) = false := by rfl) : PE X (.Call (.Name x p) (e :: es) [] pos) (tMakeP C sp E t) :=
  ⟨fun pins s σ H Q I h => wpAny_Call_Name_kw (ld_glob I hg hm (PySem.W.callWith_K (h₀ := X.base) I.ok.mod.kin M.kp (thn (ha.run pos pins s σ H _ I h) fun us s1 ⟨vs, H1, I1, r, q⟩ => ⟨I1.kIn, run_makeP M F hr hb (hx σ) I1 r q⟩) he hpl) hdb)⟩
end
/-- a method of the text -/
structure Dm (K : PySem.W.Frag) (x qual : Str) (st : Stmt) (ps : List Str) (f : Addr) (fd : FuncData) : Prop where
  F : Fun K x qual st f fd
  b : Binds K fd ps []
theorem dm_mk {K : PySem.W.Frag} {x qual : Str} {st : Stmt} {ps : List Str} {f : Addr} {oc : Value} {od an : Option Addr} {osl : Array (Option Value)} {kV doc pm cdv ct : Value}
    (l : K.lookup f = some ⟨oc, od, .func (PySem.W.fnOf x qual (defArgs st) (defBody st) (defScope st) .none kV doc pm an cdv ct), osl⟩) (c : PySem.W.codeIn K cdv qual = true) (k : PySem.W.keepIn K (.ref f) = true)
    (b : ∀ (kV doc pm : Value) (an : Option Addr) (cdv ct : Value) (us : List Value), us.length = ps.length → bindArgs (PySem.W.fnOf x qual (defArgs st) (defBody st) (defScope st) .none kV doc pm an cdv ct) ⟨us, []⟩ = pure (ps.zip us)) : Dm K x qual st ps f (PySem.W.fnOf x qual (defArgs st) (defBody st) (defScope st) .none kV doc pm an cdv ct) :=
  ⟨fun_mk l c k, (fun_mk l c k).binds b⟩
/-! readings -/
theorem r_fld {K : PySem.W.Frag} {σ : L2.St} {H : Hp} {Q : VK} {a C dx : Addr} {fs : List (Str × V)} {f : Str} {v : V} (h : H a = some (.ins C dx fs)) (c : Cls K C) (n : PySem.W.findIn K (.ref C) f = some none) (l : fs.lookup f = some v) (q : Q v H) : ∃ a' C' dx' fs' v', V.ref a = .ref a' ∧ H a' = some (.ins C' dx' fs') ∧ Cls K C' ∧ NoAttr K C' f ∧ fs'.lookup f = some v' ∧ Q v' H := ⟨a, C, dx, fs, v, rfl, h, c, n, l, q⟩
theorem r_sfld {K : PySem.W.Frag} {σ : L2.St} {H : Hp} {ta tv : TE} {f : Str} {D : L2.Ends} (h : tv σ H fun y H1 => ta σ H1 fun x H2 => ∃ a C dx fs, x = .ref a ∧ H2 a = some (.ins C dx fs) ∧ Cls K C ∧ NoAttr K C f ∧ fs.length < 1000 ∧ D.nx σ (upd H2 a (.ins C dx (putF f y fs)))) : sFld K ta tv f D σ H := h
theorem r_tfld {K : PySem.W.Frag} {σ : L2.St} {H : Hp} {Q : VK} {ta : TE} {f : Str} (h : ta σ H fun x H1 => ∃ a C dx fs v, x = .ref a ∧ H1 a = some (.ins C dx fs) ∧ Cls K C ∧ NoAttr K C f ∧ fs.lookup f = some v ∧ Q v H1) : tFld K ta f σ H Q := h
theorem r_meth {σ : L2.St} {H : Hp} {Q : VK} {C : Addr} {m : Str} {sp : Sp} {E : L2.St → XK} {ta : TE} {t : TA} (h : ta σ H fun x H1 => ∃ a dx fs, x = .ref a ∧ H1 a = some (.ins C dx fs) ∧ fs.lookup m = none ∧ t σ H1 fun vs H2 => sp (x :: vs) H2 Q (E σ)) : tMethP C m sp E ta t σ H Q := h
theorem r_make {σ : L2.St} {H : Hp} {Q : VK} {C : Addr} {sp : Sp} {E : L2.St → XK} {t : TA} (h : t σ H fun vs H1 => ∀ x dx, H1 x = none → H1 dx = none → dx ≠ x → sp (.ref x :: vs) (upd (upd H1 dx (.own x)) x (.ins C dx [])) (fun v H2 => v = .non ∧ Q (.ref x) H2) (E σ)) : tMakeP C sp E t σ H Q := h
theorem r_listRg {σ : L2.St} {H : Hp} {Q : VK} {te : L2.St → Hp → (Int → Int → Hp → Prop) → Prop} (h : te σ H fun a b H1 => RgOk a b ∧ ∀ q, H1 q = none → Q (.ref q) (upd H1 q (.lst (rgV a b)))) : tLstRg te σ H Q := h
theorem r_rg1 {σ : L2.St} {H : Hp} {ta : TE} {Q : Int → Int → Hp → Prop} (h : ta σ H fun x H1 => ∃ n, x = .int n ∧ Q 0 n H1) : tRg1 ta σ H Q := h
theorem r_rg2 {σ : L2.St} {H : Hp} {ta tb : TE} {Q : Int → Int → Hp → Prop} (h : ta σ H fun x H1 => tb σ H1 fun y H2 => ∃ i j, x = .int i ∧ y = .int j ∧ Q i j H2) : tRg2 ta tb σ H Q := h
section
variable {X : Cx} {CX : CXT} {k : Nat} {f C : Addr} {fd : FuncData} {ps ks : List Str} {sp : Sp} {E : XK} {m : Str} {pos apos : Pos} {e o : Expr} {es : List Expr} {kws : List Keyword} {ta : TE} {t tk : TA} {g : List Value → List Value → List Value} {gV : List V → List V → List V}
/-- o.m(e, .., k = v, ..) -/
def tMethK (C : Addr) (m : Str) (sp : Sp) (gV : List V → List V → List V) (E : XK) (ta : TE) (t tk : TA) : TE := fun σ H Q => ta σ H fun x H1 => ∃ a dx fs, x = .ref a ∧ H1 a = some (.ins C dx fs) ∧ fs.lookup m = none ∧ t σ H1 fun vs H2 => tk σ H2 fun zs H3 => sp (gV (x :: vs) zs) H3 Q E
theorem pe_methK {pl : Sem Bool} (ho : PE X o ta) (c : Cls X.K C) (hm : Meth X.K C m f) (F : FnOk X.prog X.w X.K X.mg X.base CX k f fd ps sp) (hr : Room k X.A) (hb : KBinds X.K fd ps ks g gV) (hx : Passes CX X E) (ha : PA X (e :: es) t) (hkw : PK X kws tk)
    (hall : (backToKw pos (keywordEach kws X.env)).all (·.1.isSome) = true := by rfl) (hks : (backToKw pos (keywordEach kws X.env)).filterMap (·.1) = ks := by rfl) (hst : starEach (e :: es) X.env = (false, eval e X.env) :: starEach es X.env := by rfl) (hpl : ((backTo pos (starEach (e :: es) X.env)).any (·.1) || (backToKw pos (keywordEach kws X.env)).any (·.1.isNone)) = false := by rfl)
    (ht : eval (.Call (.Attribute o m apos) (e :: es) kws pos) X.env = (do let ov ← eval o X.env; standAt apos.atName; let (f, first) ← holding [ov] (getMethod ov m pl); callWith pos f first (backTo pos (starEach (e :: es) X.env)) (backToKw pos (keywordEach kws X.env))) := by rfl) : PE X (.Call (.Attribute o m apos) (e :: es) kws pos) (tMethK C m sp gV E ta t tk) := ⟨fun pins s σ H Q I h => PySem.W.methodCall_KW (pl := pl) (thn (ho.run pins s σ H _ I h) fun u s1 z => by
    obtain ⟨x, H1, I1, rx, a, dx, fs, ex, ea, l, q⟩ := z
    subst ex
    obtain rfl : u = Value.ref a := rx
    refine getmeth_ok I1 ea c hm l (PySem.W.callWith_KW (first := [.ref a]) (h₀ := X.base) I1.ok.mod.kin hm.kp hall (thn (ha.run pos pins s1 σ H1 _ I1 q) fun us s2 ⟨vs, H2, I2, r, q2⟩ => ?_) hpl hst)
    refine thn (hkw.run pos pins s2 σ H2 _ I2 q2) fun ws s3 ⟨zs, H3, I3, rz, q3⟩ => ⟨I3.kIn, ?_⟩
    rw [hks]
    exact run_fnk (us := .ref a :: us) (vs := .ref a :: vs) F hr hb hx I3 (.cons rfl r) rz q3) ht⟩
theorem r_methK {σ : L2.St} {H : Hp} {Q : VK} (h : ta σ H fun x H1 => ∃ a dx fs, x = .ref a ∧ H1 a = some (.ins C dx fs) ∧ fs.lookup m = none ∧ t σ H1 fun vs H2 => tk σ H2 fun zs H3 => sp (gV (x :: vs) zs) H3 Q E) : tMethK C m sp gV E ta t tk σ H Q := h
end
/-- two by place, one by its name -/
def g21 {α : Type} : List α → List α → List α
  | [a, b], [c] => [a, b, c]
  | _, _ => []
theorem kb21 {K : PySem.W.Frag} {x qual kn : Str} {st : Stmt} {f : Addr} {fd : FuncData} {ps : List Str} (F : Fun K x qual st f fd) (hp : ps.length = 3)
    (h : ∀ (kV doc pm : Value) (an : Option Addr) (cdv ct a b c : Value), bindArgs (PySem.W.fnOf x qual (defArgs st) (defBody st) (defScope st) .none kV doc pm an cdv ct) ⟨[a, b], [(kn, c)]⟩ = pure (ps.zip [a, b, c])) : KBinds K fd ps [kn] g21 g21 := by
  obtain ⟨oc, od, kV, doc, pm, an, cdv, ct, osl, rfl, lk, hcd⟩ := F.ex
  refine ⟨fun s us ws _ hl => ?_, fun {vs us zs ws} r z => ?_⟩
  · rcases us with _ | ⟨a, _ | ⟨b, _ | ⟨d, us⟩⟩⟩ <;> rcases ws with _ | ⟨c, _ | ⟨e, ws⟩⟩ <;> first | exact .of_eq (h kV doc pm an cdv ct a b c) | (rw [hp] at hl; cases hl)
  · rcases r with _ | ⟨r1, _ | ⟨r2, _ | ⟨r3, r⟩⟩⟩ <;> rcases z with _ | ⟨z1, _ | ⟨z2, z⟩⟩ <;> first | exact .cons r1 (.cons r2 (.cons z1 .nil)) | exact .nil
end Vb
namespace Vb
open PySem PySem.Spec PyProof.Rows L2
/-! ### a try with several clauses, each of which keeps a name -/
/-- what the clauses wish of an error, in their order -/
def wAll (K : PySem.W.Frag) (Wo : WX) (D : L2.Ends) : List (Value × Nat × (Addr → Value → Option Addr → TS)) → WX
  | [] => Wo
  | (c, i, ts) :: r => wAs K c i ts (wAll K Wo D r) D
inductive Clauses (X : Cx) : List ExceptHandler → List (Value × Nat × (Addr → Value → Option Addr → TS)) → Prop
  | nil : Clauses X [] []
  | cons {x n : Str} {c : Value} {i : Nat} {ts : Addr → Value → Option Addr → TS} {b0 : Stmt} {su : List Stmt} {np po : Pos} {hs : List ExceptHandler} {l : List (Value × Nat × (Addr → Value → Option Addr → TS))} (hi : X.N[i]? = some n) (hl : X.env.kindOf n = some .local) (hc : Names X x c)
      (hsu : ∀ (a : Addr) (oe : Obj) (cls : Value) (d : Option Addr) (pn : List (Addr × Obj)), L2N.Zn cls d oe → (∃ vs, oe.data = .fields vs) → PSs (X.suite a ((a, oe) :: pn)) (b0 :: su) (ts a cls d)) (r : Clauses X hs l) : Clauses X (.ExceptHandler (some (.Name x np)) (some n) (b0 :: su) po :: hs) ((c, i, ts) :: l)
section
variable {X : Cx} {body : List Stmt} {c0 : ExceptHandler} {cs : List ExceptHandler} {l : List (Value × Nat × (Addr → Value → Option Addr → TS))} {pos : Pos} {tb : WX → TS} {Wo : WX}
theorem ps_try_all (st : X.stack = X.env :: X.outer) (fr : X.env.frame = some X.env.locals) (nd : X.N.Nodup) (tk : L2N.Takes X Wo)
    (hb : ∀ (W : WX) (pn : List (Addr × Obj)) (xe : Value → Shared → Prop), L2N.Takes (X.tr pn xe) W → PassesOwn (model X.prog X.w) X.A X.env xe → PSs (X.tr pn xe) body (tb W))
    (hh : Clauses X (c0 :: cs) l) : PS X (.Try body (c0 :: cs) [] [] pos) (fun D σ H => tb (wAll X.K Wo D l) D σ H) := by
  refine ⟨fun pins s σ H D I h => ?_⟩
  have iok := I.ok
  have afr : X.A.frames = some (X.env :: X.outer) := by rw [iok.frames, st]
  refine wpAny_Try_except (wpAny_mono ((hb (wAll X.K Wo D l) (X.pn ++ pins) (fun e z1 => wpAny (model X.prog X.w) X.A (noteFrame e X.env) (fun _ z2 => wpAny (model X.prog X.w) X.A (setFlight e none) (fun _ z3 =>
    wpAny (model X.prog X.w) X.A (handleBy e X.env (c0 :: cs)) (SP X pins D) X.xe z3) X.xe z2) X.xe z1) (fun u s' z => ?caught) PassesOwn.looking).run [] s σ H D (I.toTry _) h) (fun f s1 z => ?thru) (fun _ _ z => z))
  case thru =>
    cases f with
    | ret u =>
      obtain ⟨v, σ1, H1, J1, r1, q1⟩ := z
      exact ⟨v, σ1, H1, J1.ofTry iok, r1, q1⟩
    | next =>
      obtain ⟨σ1, H1, J1, q1⟩ := z
      exact wpAny_execs_nil ⟨σ1, H1, J1.ofTry iok, q1⟩
    | brk =>
      obtain ⟨σ1, H1, J1, q1⟩ := z
      exact ⟨σ1, H1, J1.ofTry iok, q1⟩
    | cont =>
      obtain ⟨σ1, H1, J1, q1⟩ := z
      exact ⟨σ1, H1, J1.ofTry iok, q1⟩
  case caught =>
    obtain ⟨a, B, sI, pins1, σ1, H1, cls, d, rfl, J0, nb, up, sky0, na, os, ag, w⟩ := z
    have J : Inv X pins σ1 H1 sI := J0.ofTry iok
    have sky1 : Sky B (X.env :: X.outer) a (L2N.Zn cls d) X.env.locals s'.heap := by rw [← st]; exact sky0
    refine L2N.Sky.land L2N.Zn.steady afr fr sky1 fun h3 fl3 up3 => ?_
    have J3 : Inv X pins σ1 H1 { s' with heap := h3 } := J.landed nb fl3.1 (up.trans up3) os ag
    obtain ⟨oe3, vs3, he3, hz3, hd3⟩ := fl3.there
    have nfr : a ∉ frs (X.env :: X.outer) := fun hm => by
      obtain ⟨_, o', e', hnf⟩ := fl3.2.2.1.mem hm
      rw [he3] at e'
      cases e'
      exact hnf _ hd3
    have nL : a ≠ X.env.locals := fun z => nfr (List.mem_filterMap.mpr ⟨X.env, List.mem_cons_self, by rw [fr, z]⟩)
    have nF : a ∉ X.fs := fun hm => by
      obtain ⟨e, he, q⟩ := List.mem_filterMap.mp hm
      exact nfr (List.mem_filterMap.mpr ⟨e, List.mem_cons_of_mem _ he, q⟩)
    have S3 := J3.suite he3 hd3 na nL nF
    have go : ∀ {cs1 : List ExceptHandler} {l1 : List (Value × Nat × (Addr → Value → Option Addr → TS))}, Clauses X cs1 l1 → wAll X.K Wo D l1 cls d σ1 H1 → wpAny (model X.prog X.w) X.A (handleBy (.ref a) X.env cs1) (SP X pins D) X.xe { s' with heap := h3 } := by
      intro cs1 l1 hk
      induction hk with
      | nil =>
        intro w1
        refine wpAny_handleBy_nil ?_
        obtain ⟨k1, k2, k3, oe, vs, T, oT, ts1, he, hz, hd, h1, hr⟩ := id fl3
        unfold PySem.passOn
        refine wpAny_bind (wpAny_field he hd h1 ?_)
        rw [if_neg (show ¬ ((Value.ref T == Value.none) = true) by simp)]
        have last : wpAny (model X.prog X.w) X.A (setFlight (.ref a) X.env.frame) (fun _ z4 => wpAny (model X.prog X.w) X.A (throw (.ref a) : Sem Flow) (SP X pins D) X.xe z4) X.xe { s' with heap := h3 } := by
          rw [fr]
          exact HandSPX.setFlight_upZ fl3 fun h4 hh4 up4 => wpAny_throw (tk _ _ ⟨a, B, sI, pins, σ1, H1, cls, d, rfl, J, nb, (up.trans up3).trans up4, .inr (.inr (by rw [st]; exact hh4)), na, os, ag, w1⟩)
        first
          | exact wpAny_bind (wpAny_pure (wpAny_bind last))
          | exact wpAny_bind last
      | @cons x n c i ts b0 su np po hs2 l2 hi hln hc hsu r ih =>
        intro w1
        obtain ⟨b, hb1, hyes, hno⟩ := w1
        refine wpAny_handleBy_cons (codeAny_handlers_test ?_) (fun q => by cases q)
        have LT : PySem.W.Looks (model X.prog X.w) h3 (typeOf (.ref a)) cls := fun _ _ _ _ k q => wpAny_typeOf_ref (k _ _ he3) (by rw [hz3.1]; exact q)
        have LM := PySem.W.exm_one (M := model X.prog X.w) J3.kIn LT hb1
        have look : ∀ {Q E : Value → Shared → Prop}, Q c { s' with heap := h3 } → wpAny (model X.prog X.w) (X.A.mark (some (.ref a))) (eval (.Name x np) X.env) Q E { s' with heap := h3 } := fun {Q E} q => by
          rcases hc with ⟨hg, hdb, hm | ⟨hm, hv, hnn⟩⟩
          · exact ld_glob (X := X.suite a ((a, oe3) :: (X.pn ++ pins))) S3 hg hm q hdb
          · exact ld_blt (X := X.suite a ((a, oe3) :: (X.pn ++ pins))) S3 hg hm hv q hnn hdb
        refine look (LM.here ?_)
        cases b with
        | false => exact ih (hno rfl)
        | true =>
          refine codeAny_handlers_suite_as (HandSPX.lands_againZ fl3 fun h4 fl4 up4 => ?_)
          have J4 : Inv X pins σ1 H1 { s' with heap := h4 } := J.landed nb fl4.1 ((up.trans up3).trans up4) os ag
          obtain ⟨oe4, vs4, he4, hz4, hd4⟩ := fl4.there
          have S4 := J4.suite he4 hd4 na nL nF
          refine store_ok (X := X.suite a ((a, oe4) :: (X.pn ++ pins))) (v := .ref a) S4 nd hi (.inl hln) rfl (fun s5 S5 => ?_) (.inr hln)
          refine wpAny_mono ((hsu a oe4 cls d (X.pn ++ pins) hz4 ⟨_, hd4⟩).run [] s5 _ H1 _ S5 (hyes rfl a na)) (fun f s6 hsp => ?_) (fun _ _ z => z.elim)
          have over : ∀ {σ6 : L2.St} {H6 : Hp} {Q : Shared → Prop}, Inv (X.suite a ((a, oe4) :: (X.pn ++ pins))) [] σ6 H6 s6 → (∀ s7, Inv X pins (σ6.set i none) H6 s7 → Q s7) →
              wpAny (model X.prog X.w) X.A (do bindName X.env n .none; unbindBehindTheSuite X.env n po) (fun _ s7 => Q s7) X.xe s6 := fun S6 hq => gone_ok (S6.unsuite iok) nd hi hln hq
          cases f with
          | ret u =>
            obtain ⟨v6, σ6, H6, S6, r6, q6⟩ := hsp
            exact over S6 fun _ J7 => ⟨_, _, _, J7, r6, q6⟩
          | next =>
            obtain ⟨σ6, H6, S6, q6⟩ := hsp
            exact over S6 fun _ J7 => ⟨_, _, J7, q6⟩
          | brk =>
            obtain ⟨σ6, H6, S6, q6⟩ := hsp
            exact over S6 fun _ J7 => ⟨_, _, J7, q6⟩
          | cont =>
            obtain ⟨σ6, H6, S6, q6⟩ := hsp
            exact over S6 fun _ J7 => ⟨_, _, J7, q6⟩
    exact go hh w
end
/-- a clause that is not meant -/
theorem r_pass {K : PySem.W.Frag} {c : Value} {i : Nat} {ts : Addr → Value → Option Addr → TS} {Wo : WX} {D : L2.Ends} {cls : Value} {d : Option Addr} {σ : L2.St} {H : Hp} (e : PySem.W.exmOne K cls c = some false) (h : Wo cls d σ H) : wAs K c i ts Wo D cls d σ H := ⟨false, e, fun z => Bool.noConfusion z, fun _ => h⟩
theorem Xk.no {K : PySem.W.Frag} {C D : Addr} (k : Xk K C) (s : PySem.W.subIn K (.ref D) (.ref C) = some false) : PySem.W.exmOne K (.ref D) (.ref C) = some false := PySem.W.exm_ref k.sb k.hd k.ty s
/-! ### x in o, o == x by the text's own defs -/
section
variable {X : Cx} {CX : CXT} {k : Nat} {f C : Addr} {fd : FuncData} {ps : List Str} {sp : Sp} {E : XK}
/-- what x in o asks -/
def rInOwn (neg : Bool) (C : Addr) (sp : Sp) (E : XK) : R2 := fun x y H Q => ∃ a dx fs, y = .ref a ∧ H a = some (.ins C dx fs) ∧ sp [y, x] H (fun v H' => ∃ b, v = .bl b ∧ Q (.bl (if neg then !b else b)) H') E
theorem cont_own {pins : List (Addr × Obj)} {s : Shared} {σ : L2.St} {H : Hp} {x : V} {v : Value} {a dx : Addr} {fs : List (Str × V)} {Q : Bool → Shared → Prop} (hs : PySem.W.findIn X.K (.ref C) "__contains__" = some (some (.ref f))) (hf : PySem.W.isFn X.K (.ref f) = true)
    (F : FnOk X.prog X.w X.K X.mg X.base CX k f fd ps sp) (hr : Room k X.A) (hb : Binds X.K fd ps []) (hx : PassesAt CX X σ E) (I : Inv X pins σ H s) (rx : RelV x v) (ha : H a = some (.ins C dx fs)) {Qv : VK} (q : sp [.ref a, x] H Qv E)
    (hq : ∀ u s', EP X pins σ Qv u s' → ∃ b, u = Value.bool b ∧ Q b s') : wpAny (model X.prog X.w) X.A (contains (.ref a) v) Q X.xe s := by
  obtain ⟨mA, J, _⟩ := ins_get I.hok ha
  obtain ⟨od, J, _⟩ := J.look
  have kx := I.kIn
  have spec : PySem.W.Looks (model X.prog X.w) s.heap (specialOf (.ref a) "__contains__") (some (.ref f)) := fun A Q E s' k' q' => by
    unfold specialOf
    exact wpAny_bind (J.type A _ _ _ k' ((PySem.W.looks_findIn kx hs) A _ _ _ k' q'))
  unfold contains
  refine wpAny_holding ?_
  rw [PySem.stdlibNamesSay?_ref]
  refine wpAny_bind (spec.here ?_)
  show wpAny _ X.A (if (some (Value.ref f) == some Value.none) = true then _ else _) Q X.xe s
  rw [if_neg (by simp)]
  refine wpAny_bind ?_
  unfold callSpecialUnlessNone?
  refine wpAny_bind (spec.here (wpAny_holding (wpAny_bind ((PySem.W.bind_fn kx _ (beq_iff_eq.mp hf)).here ?_))))
  show wpAny _ X.A (if (Value.ref f == Value.none) = true then _ else _) _ X.xe s
  rw [if_neg (by simp)]
  refine wpAny_bind (wpAny_mono (run_fnS (E := fun _ => E) (us := [.ref a, v]) (vs := [.ref a, x]) F hr hb hx I (.cons rfl (.cons rx .nil)) q) (fun u s' z => ?_) fun _ _ z => z)
  obtain ⟨b, rfl, q'⟩ := hq u s' z
  exact wpAny_pure (wpAny_truthy_bool q')
theorem op_inOwn (hs : PySem.W.findIn X.K (.ref C) "__contains__" = some (some (.ref f))) (hf : PySem.W.isFn X.K (.ref f) = true) (F : FnOk X.prog X.w X.K X.mg X.base CX k f fd ps sp) (hr : Room k X.A) (hb : Binds X.K fd ps []) (hx : ∀ σ, PassesAt CX X σ E) : OpR X (compareOp .In) (rInOwn false C sp E) := by
  intro pins s σ H x y v u Q I rx ry h
  obtain ⟨a, dx, fs, rfl, ha, q⟩ := h
  obtain rfl : u = Value.ref a := ry
  show wpAny (model X.prog X.w) X.A (do let b ← contains (.ref a) v; pure (Value.bool b)) (EP X pins σ Q) X.xe s
  refine wpAny_bind (cont_own hs hf F hr hb (hx σ) I rx ha q fun u s' z => ?_)
  obtain ⟨w, H', I', rw', b, rfl, q'⟩ := z
  exact ⟨b, rw', wpAny_pure ⟨.bl b, H', I', rfl, q'⟩⟩
theorem op_notInOwn (hs : PySem.W.findIn X.K (.ref C) "__contains__" = some (some (.ref f))) (hf : PySem.W.isFn X.K (.ref f) = true) (F : FnOk X.prog X.w X.K X.mg X.base CX k f fd ps sp) (hr : Room k X.A) (hb : Binds X.K fd ps []) (hx : ∀ σ, PassesAt CX X σ E) : OpR X (compareOp .NotIn) (rInOwn true C sp E) := by
  intro pins s σ H x y v u Q I rx ry h
  obtain ⟨a, dx, fs, rfl, ha, q⟩ := h
  obtain rfl : u = Value.ref a := ry
  show wpAny (model X.prog X.w) X.A (do let b ← contains (.ref a) v; pure (Value.bool (!b))) (EP X pins σ Q) X.xe s
  refine wpAny_bind (cont_own hs hf F hr hb (hx σ) I rx ha q fun u s' z => ?_)
  obtain ⟨w, H', I', rw', b, rfl, q'⟩ := z
  exact ⟨b, rw', wpAny_pure ⟨.bl (!b), H', I', rfl, q'⟩⟩
/-- what o == x asks -/
def rEqOwn (K : PySem.W.Frag) (C : Addr) (sp : Sp) (E : XK) : R2 := fun x y H Q => ∃ a dx fs tb, x = .ref a ∧ H a = some (.ins C dx fs) ∧ TyX K H y tb ∧ PySem.W.notFirst K C tb = true ∧ sp [x, y] H (fun v H' => ∃ b, v = .bl b ∧ Q (.bl b) H') E
theorem op_eqOwn (hs : PySem.W.findIn X.K (.ref C) "__eq__" = some (some (.ref f))) (hf : PySem.W.isFn X.K (.ref f) = true) (F : FnOk X.prog X.w X.K X.mg X.base CX k f fd ps sp) (hr : Room k X.A) (hb : Binds X.K fd ps []) (hx : ∀ σ, PassesAt CX X σ E) : OpR X (compareOp .Eq) (rEqOwn X.K C sp E) := by
  intro pins s σ H x y v u Q I rx ry h
  obtain ⟨a, dx, fs, tb, rfl, ha, ty, nf, q⟩ := h
  obtain rfl : v = Value.ref a := rx
  obtain ⟨P, Z, p, _⟩ := kit_of I ry ty
  obtain ⟨mA, J, _⟩ := ins_get I.hok ha
  obtain ⟨od, J, _⟩ := J.look
  obtain ⟨m, hF⟩ := I.fr
  show wpAny (model X.prog X.w) X.A (richCompare .Eq (.ref a) u) (EP X pins σ Q) X.xe s
  refine PySem.W.cmp_K (op := .Eq) (tb := tb) hr.units0 hF I.ok.mod.kin J (Z.ty _ _ I.kIn p) nf hs hf ?_
  refine wpAny_mono (run_fnS (E := fun _ => E) (us := [.ref a, u]) (vs := [.ref a, y]) F hr hb (hx σ) I (.cons rfl (.cons ry .nil)) q) (fun w s' z => ?_) fun _ _ z => z
  obtain ⟨w', H', I', rw', b, rfl, q'⟩ := z
  cases (show w = Value.bool b from rw')
  exact ⟨.bl b, H', I', rfl, q'⟩
end
theorem pass5A {X : Cx} : ∀ σ, PassesAt (L2N.CX X.prog X.w) X σ E0 := fun σ pins H s e s' I c => pass5 pins σ H s e s' I c
/-- an own class: what isinstance asks of its objects and of itself -/
structure Ki (K : PySem.W.Frag) (C : Addr) : Prop where
  ha : PySem.W.findIn K (.ref C) "__class__" = some (some (.builtin "object.__class__"))
  hn : PySem.W.specialIn K (.builtin "object.__class__") "__get__" = some (some (.builtin "getset_descriptor.__get__"))
  htk : PySem.W.takesIn K (.builtin "object.__class__") = some true
  hm : PySem.W.mroIn K C (.type "object") = some true
  ic : PySem.W.isClsIn K C = true
  ty : PySem.W.typeIn K (.ref C) = some (.type "type")
theorem Ki.tyx {K : PySem.W.Frag} {C a dx : Addr} {H : Hp} {fs : List (Str × V)} (k : Ki K C) (c : Cls K C) (h : H a = some (.ins C dx fs)) : TyX K H (.ref a) (.ref C) := .base (.ins h c k.ha k.hn k.htk k.hm)
theorem Ki.me {K : PySem.W.Frag} {C : Addr} (k : Ki K C) : PySem.W.kitOne K (.ref C) (.ref C) = some true := by
  unfold PySem.W.kitOne
  rw [if_pos (by simp)]
theorem Ki.of {K : PySem.W.Frag} {C : Addr} {T : String} (k : Ki K C) (s : PySem.W.subIn K (.type T) (.ref C) = some false) : PySem.W.kitOne K (.type T) (.ref C) = some false := by
  have h1' : (PySem.W.clsIn K C).isSome = true := k.ic
  unfold PySem.W.kitOne
  rw [if_neg (by intro h; cases beq_iff_eq.mp h)]
  show (if ((PySem.W.clsIn K C).isSome && PySem.W.typeIn K (.ref C) == some (.type "type")) = true then PySem.W.subIn K (.type T) (.ref C) else none) = _
  rw [h1', k.ty, if_pos (by decide)]
  exact s
theorem nf_me {K : PySem.W.Frag} {C : Addr} : PySem.W.notFirst K C (.ref C) = true := by simp [PySem.W.notFirst]
theorem nf_ty {K : PySem.W.Frag} {C : Addr} {T : String} (s : PySem.W.subIn K (.type T) (.ref C) = some false) : PySem.W.notFirst K C (.type T) = true := by simp [PySem.W.notFirst, s]
/-! ### further readings -/
theorem r_atM {H : Hp} {a C dx : Addr} {fs : List (Str × V)} {m : Str} {R : Prop} (h : H a = some (.ins C dx fs)) (l : fs.lookup m = none) (q : R) : ∃ a' dx' fs', V.ref a = .ref a' ∧ H a' = some (.ins C dx' fs') ∧ fs'.lookup m = none ∧ R := ⟨a, dx, fs, rfl, h, l, q⟩
theorem h_same {H H' : Hp} {a : Addr} {o : HO} (e : Same H H') (h : H a = some o) : H' a = some o := e a o h
theorem h_fr {H H' : Hp} {st a : Addr} {o : HO} (e : Fr st H H') (n : a ≠ st) (h : H a = some o) : H' a = some o := e.k a o n h
theorem r_newO {xs : List V} {H : Hp} {R : Addr → Prop} (hs : xs.length ≤ sizeLine) (h : ∀ p, H p = none → R p) : xs.length ≤ sizeLine ∧ ∀ p, H p = none → R p := ⟨hs, h⟩
theorem fr_new {H H' : Hp} {st p : Addr} {o : HO} (f : Fr st H H') (n : H' p = none) : Fr st H (upd H' p o) := f.trans (Fr.of (same_new n))
theorem fr_same {H H' H2 : Hp} {st : Addr} (f : Fr st H H') (e : Same H' H2) : Fr st H H2 := f.trans (Fr.of e)
theorem sm_new {H H' : Hp} {p : Addr} {o : HO} (f : Same H H') (n : H' p = none) : Same H (upd H' p o) := f.trans (same_new n)
theorem st_new {H : Hp} {st p : Addr} {o : HO} (s : StoreAt H st) (n : H p = none) : StoreAt (upd H p o) st := s.same (same_new n)
theorem r_fldV {K : PySem.W.Frag} {H : Hp} {a C dx : Addr} {fs : List (Str × V)} {f : Str} {v : V} {R : V → Prop} (h : H a = some (.ins C dx fs)) (c : Cls K C) (n : NoAttr K C f) (l : fs.lookup f = some v) (q : R v) : ∃ a' C' dx' fs' v', V.ref a = .ref a' ∧ H a' = some (.ins C' dx' fs') ∧ Cls K C' ∧ NoAttr K C' f ∧ fs'.lookup f = some v' ∧ R v' := ⟨a, C, dx, fs, v, rfl, h, c, n, l, q⟩
end Vb
namespace Vb
open PySem PySem.Spec PyProof.Rows L2
/-! ### texts: their rules under own names, their readings -/
abbrev sg (x : Str) : List Nat := TL.tl x
theorem sg_len (x : Str) : x.length = (sg x).length := TL.len_tl x
theorem sg_ext {x y : Str} (h : sg x = sg y) : x = y := TL.ext_tl h
theorem sg_app (x y : Str) : sg (x ++ y) = sg x ++ sg y := TL.tl_append x y
theorem sg_lit (s : String) : sg (Str.ofString s) = s.toList.map Char.toNat := TL.tl_ofString s
theorem sg_one (c : Nat) : sg ⟨#[c]⟩ = [c] := rfl
theorem len_app (x y : Str) : (x ++ y).length = x.length + y.length := by rw [sg_len, sg_len, sg_len, sg_app, List.length_append]
theorem len_lit (s : String) : (Str.ofString s).length = s.toList.length := by rw [sg_len, sg_lit, List.length_map]
theorem len_one (c : Nat) : (Str.mk #[c]).length = 1 := rfl
section
variable {X : Cx} {K : PySem.W.Frag} {H : Hp} {Q : VK} {σ : L2.St}
def rAddS : R2 := fun x y H Q => ∃ i j, x = .str i ∧ y = .str j ∧ i.length + j.length ≤ sizeLine ∧ Q (.str (i ++ j)) H
theorem op_addS : OpR X (binaryOp .Add) rAddS := L2.op_add_str
theorem r_addS {i j : Str} (h : i.length + j.length ≤ sizeLine) (q : Q (.str (i ++ j)) H) : rAddS (.str i) (.str j) H Q := ⟨i, j, rfl, rfl, h, q⟩
def rMulS : R2 := fun x y H Q => ∃ (z : Str) (k : Int), x = .str z ∧ y = .int k ∧ (k < 1000000 ∧ -1000000 < k ∧ z.length * k.toNat ≤ 16777216) ∧ Q (.str (Txt.mul z k)) H
theorem mul_ok {z : Str} {k : Int} (h : k < 1000000 ∧ -1000000 < k ∧ z.length * k.toNat ≤ 16777216) : PySem.MulOk z k := by
  obtain ⟨h1, h2, h3⟩ := h
  refine ⟨by rw [decide_eq_false (by omega), decide_eq_false (by omega)]; rfl, fun n1 _ => ?_, fun n1 _ => ?_⟩
  · intro hh
    have hk : 0 < k := by omega
    have hm : (z.length : Int) * k ≤ 16777216 := by
      have : ((z.length * k.toNat : Nat) : Int) ≤ 16777216 := by omega
      rw [Int.natCast_mul, Int.toNat_of_nonneg (by omega)] at this
      exact this
    have h4 : (z.length : Int) ≤ (2 ^ 63 - 1) / k := by
      rw [Int.le_ediv_iff_mul_le hk]
      omega
    omega
  · show decide (z.length * k.toNat > PySem.sizeLine) = false
    rw [decide_eq_false]
    show ¬ z.length * k.toNat > 2 ^ 24
    omega
theorem op_mulS : OpR X (binaryOp .Mult) rMulS := by
  intro pins s σ H x y v u Q I rx ry h
  obtain ⟨z, k, rfl, rfl, hk, q⟩ := h
  obtain ⟨t, rfl⟩ := rx
  obtain ⟨t', rfl⟩ := ry
  exact PySem.SB.mul (mul_ok hk) fun t2 tk => ⟨.str (Txt.mul z k), H, I.tok _, ⟨_, rfl⟩, q⟩
theorem r_mulS {z : Str} {k : Int} (h : k < 1000000 ∧ -1000000 < k ∧ z.length * k.toNat ≤ 16777216) (q : Q (.str (Txt.mul z k)) H) : rMulS (.str z) (.int k) H Q := ⟨z, k, rfl, rfl, h, q⟩
theorem mul_len (z : Str) (k : Int) : (Txt.mul z k).length ≤ z.length * k.toNat := by
  unfold Txt.mul
  split
  · exact Nat.zero_le _
  · split
    · rename_i h1 h2
      have : 1 ≤ k.toNat := by omega
      exact Nat.le_mul_of_pos_right _ this
    · show ((List.replicate k.toNat z.cps).foldl (· ++ ·) #[]).size ≤ _
      rw [PySem.size_reps]
      show 0 + k.toNat * z.length ≤ _
      rw [Nat.zero_add, Nat.mul_comm]
      exact Nat.le_refl _
def rInSg (neg : Bool) : R2 := fun x y H Q => ∃ (c : Nat) (z : Str), x = .str ⟨#[c]⟩ ∧ y = .str z ∧ Q (.bl (if neg then !decide (c ∈ sg z) else decide (c ∈ sg z))) H
theorem op_inSg : OpR X (compareOp .In) (rInSg false) := L2.op_in_sign
theorem op_niSg : OpR X (compareOp .NotIn) (rInSg true) := L2.op_notIn_sign
theorem r_inSg {c : Nat} {z : Str} (q : Q (.bl (decide (c ∈ sg z))) H) : rInSg false (.str ⟨#[c]⟩) (.str z) H Q := ⟨c, z, rfl, rfl, q⟩
theorem r_niSg {c : Nat} {z : Str} (q : Q (.bl (!decide (c ∈ sg z))) H) : rInSg true (.str ⟨#[c]⟩) (.str z) H Q := ⟨c, z, rfl, rfl, q⟩
theorem r_inSgV {c : Nat} {x z : Str} (e : sg x = [c]) (q : Q (.bl (decide (c ∈ sg z))) H) : rInSg false (.str x) (.str z) H Q := by
  obtain rfl : x = ⟨#[c]⟩ := sg_ext e
  exact ⟨c, z, rfl, rfl, q⟩
theorem r_ixS {z : Str} {i : Int} {c : Nat} (h : z.length ≤ sizeLine) (e : atI (sg z) i = some c) (q : Q (.str ⟨#[c]⟩) H) : rIxS (.str z) (.int i) H Q := ⟨z, i, c, rfl, rfl, h, e, q⟩
theorem r_cutS {z : Str} {lo hi : Option Int} (h : z.length ≤ sizeLine) (q : Q (.str (cutS z lo hi)) H) : rSlS (.str z) lo hi H Q := ⟨z, rfl, h, q⟩
theorem cut_len (z : Str) (lo hi : Option Int) : (cutS z lo hi).length ≤ z.length := cutS_length z lo hi
def rLenStr : List V → Hp → VK → Prop := fun xs H Q => ∃ z, xs = [.str z] ∧ z.length ≤ sizeLine ∧ Q (.int z.length) H
theorem call_lenS : CallR X (.builtin "len") rLenStr := L2.call_len_str
theorem r_lenS {z : Str} (h : z.length ≤ sizeLine) (q : Q (.int z.length) H) : rLenStr [.str z] H Q := ⟨z, rfl, h, q⟩
theorem call_all (hc : X.calm = true) : CallR X (.builtin "all") (rAll X.K) := L2.cr_all hc
theorem r_all {a : Addr} {bs : List Bool} (h : SqL K H a (bs.map V.bl)) (q : Q (.bl (bs.all id)) H) : rAll K [.ref a] H Q := ⟨a, bs, rfl, h, q⟩
theorem r_cat {l b : Addr} {xs zs : List V} (h1 : H l = some (.lst xs)) (h2 : H b = some (.lst zs)) (h3 : xs.length + zs.length ≤ sizeLine) (q : ∀ p, H p = none → Q (.ref p) (upd H p (.lst (xs ++ zs)))) : rCat (.ref l) (.ref b) H Q := ⟨l, b, xs, zs, rfl, rfl, h1, h2, h3, q⟩
theorem r_repL {l : Addr} {k : Int} {xs : List V} (h1 : H l = some (.lst xs)) (h2 : -1000000 < k ∧ k < 1000000) (h3 : xs.length * k.toNat ≤ sizeLine) (q : ∀ p, H p = none → Q (.ref p) (upd H p (.lst (List.replicate k.toNat xs).flatten))) : rRep (.ref l) (.int k) H Q := ⟨l, k, xs, rfl, rfl, h1, by omega, by omega, h3, q⟩
-- sep.join(xs), s.split(sep), s.upper()
def rJoin (K : PySem.W.Frag) : V → List V → Hp → VK → Prop := fun x xs H Q => ∃ a p, ∃ ys : List Str, x = .str a ∧ xs = [.ref p] ∧ (SqL K H p (ys.map V.str) ∨ SqT K H p (ys.map V.str)) ∧ (ys.map (·.length)).sum + ys.length * a.length ≤ 16777216 ∧ Q (.str (Txt.join a ys)) H
theorem pe_joinN {o e : Expr} {to te : TE} {apos pos : Pos} (ho : PE X o to) (he : PE X e te) (hs : starEach [e] X.env = [(false, eval e X.env)] := by rfl) (hbase : attributeBase o "join" X.env (eval o X.env) = eval o X.env := by rfl) (hline : (apos.endLine == pos.line) = true := by rfl) :
    PE X (.Call (.Attribute o "join" apos) [e] [] pos) (tM1 (rJoin X.K) to te) := L2.pe_join ho he hs hbase hline
theorem r_M1 {r : V → List V → Hp → VK → Prop} {to te : TE} (h : to σ H fun x H1 => (∃ a, x = .str a) ∧ te σ H1 fun y H2 => r x [y] H2 Q) : tM1 r to te σ H Q := h
theorem r_M0 {r : V → List V → Hp → VK → Prop} {to : TE} (h : to σ H fun x H1 => (∃ a, x = .str a) ∧ r x [] H1 Q) : tM0 r to σ H Q := h
theorem r_strA {s : Str} {R : Prop} (q : R) : (∃ a, V.str s = .str a) ∧ R := ⟨⟨s, rfl⟩, q⟩
theorem r_join {a : Str} {p : Addr} {ys : List Str} (h : SqL K H p (ys.map V.str)) (l : (ys.map (·.length)).sum + ys.length * a.length ≤ 16777216) (q : Q (.str (Txt.join a ys)) H) : rJoin K (.str a) [.ref p] H Q := ⟨a, p, ys, rfl, rfl, .inl h, l, q⟩
def rSplit : V → List V → Hp → VK → Prop := fun x xs H Q => ∃ a b, x = .str a ∧ xs = [.str b] ∧ (b.length == 0) = false ∧ a.length + 2 ≤ sizeLine ∧ rNewStrs (Txt.split a b) H Q
theorem pe_splitN {o e : Expr} {to te : TE} {apos pos : Pos} (ho : PE X o to) (he : PE X e te) (hs : starEach [e] X.env = [(false, eval e X.env)] := by rfl) (hbase : attributeBase o "split" X.env (eval o X.env) = eval o X.env := by rfl) (hline : (apos.endLine == pos.line) = true := by rfl) :
    PE X (.Call (.Attribute o "split" apos) [e] [] pos) (tM1 rSplit to te) := L2.pe_split ho he hs hbase hline
theorem r_split {a b : Str} (hb : (b.length == 0) = false) (ha : a.length + 2 ≤ sizeLine) (q : ∀ p, H p = none → Q (.ref p) (upd H p (.lst ((Txt.split a b).map V.str)))) : rSplit (.str a) [.str b] H Q := ⟨a, b, rfl, rfl, hb, ha, q⟩
def rUpper : V → List V → Hp → VK → Prop := fun x xs H Q => ∃ a, x = .str a ∧ xs = [] ∧ a.length ≤ 5592405 ∧ Q (.str (Txt.upper a)) H
theorem pe_upperN {o : Expr} {to : TE} {apos pos : Pos} (ho : PE X o to) (hbase : attributeBase o "upper" X.env (eval o X.env) = eval o X.env := by rfl) (hline : (apos.endLine == pos.line) = true := by rfl) :
    PE X (.Call (.Attribute o "upper" apos) [] [] pos) (tM0 rUpper to) := L2.pe_upper ho hbase hline
theorem r_upper {a : Str} (h : a.length ≤ 5592405) (q : Q (.str (Txt.upper a)) H) : rUpper (.str a) [] H Q := ⟨a, rfl, rfl, h, q⟩
-- walks over a text
theorem r_iStr {te : TE} {R : It → Hp → Prop} (h : te σ H fun v H1 => ∃ x, v = .str x ∧ R (Its x) H1) : iStr te σ H R := h
theorem f_str {x : Str} {R : Str → Prop} (q : R x) : ∃ y, V.str x = .str y ∧ R y := ⟨x, rfl, q⟩
end
theorem at_sg {x : Str} {i c : Nat} (h : x.cps[i]? = some c) : (sg x)[i]? = some c := by
  show x.cps.toList[i]? = some c
  rw [Array.getElem?_toList]
  exact h
section
variable {ts : TS} {nx : L2.St → Hp → Prop} {rt : VK} {σ : L2.St} {H : Hp} {te : TE} {j : Nat}
theorem lp_str {x : Str} {g : TG} (Pv : Nat → L2.St → Hp → Prop) (h0 : Pv 0 σ H) (hs : ∀ i c σ H, (sg x)[i]? = some c → Pv i σ H → g (.str ⟨#[c]⟩) σ H fun σ2 H2 => ts (Ends.mk (Pv (i + 1)) rt nx (Pv (i + 1))) σ2 H2) (hd : ∀ σ H, Pv (sg x).length σ H → nx σ H) : ForW (Its x) g ts nx rt σ H := by
  have e : x.cps.size = (sg x).length := (Array.length_toList).symm
  refine ⟨fun i m σ H => m = (sg x).length - i ∧ i ≤ (sg x).length ∧ Pv i σ H, ⟨_, rfl, Nat.zero_le _, h0⟩, ?_⟩
  rintro i m σ H ⟨rfl, hi, p⟩
  by_cases hc : i = (sg x).length
  · subst hc
    exact .inl ⟨Nat.le_of_eq e, hd _ _ p⟩
  · refine .inr ⟨(by omega : i < x.cps.size), fun σ' H' => Pv (i + 1) σ' H', fun σ' H' q => ⟨(sg x).length - (i + 1), by omega, rfl, by omega, q⟩, ?_⟩
    rintro v H' ⟨rfl, c, hc, rfl⟩
    exact hs i c σ _ (at_sg hc) p
theorem lcw_str {x : Str} {tt : TT} {vs : List Nat} {H1 : Hp} {D : Addr} {Qd : Hp → Prop} (Pv : Nat → Hp → Prop) (h0 : Pv 0 (upd H1 D (.lst []))) (hw : ∀ x, wipe ((wipe σ vs).set j (some x)) vs = wipe σ vs)
    (hs : ∀ i c H, (sg x)[i]? = some c → Pv i H → LcT tt te D (Pv (i + 1)) ((wipe σ vs).set j (some (.str ⟨#[c]⟩))) H) (hd : ∀ H, Pv (sg x).length H → Qd H) : LcW (Its x) (gName j) tt te vs σ H1 D Qd := by
  have e : x.cps.size = (sg x).length := (Array.length_toList).symm
  refine ⟨fun i m H => m = (sg x).length - i ∧ i ≤ (sg x).length ∧ Pv i H, ⟨_, rfl, Nat.zero_le _, h0⟩, ?_⟩
  rintro i m H ⟨rfl, hi, p⟩
  by_cases hc : i = (sg x).length
  · subst hc
    exact .inl ⟨Nat.le_of_eq e, hd _ p⟩
  · refine .inr ⟨(by omega : i < x.cps.size), fun H' => Pv (i + 1) H', fun H' q => ⟨(sg x).length - (i + 1), by omega, rfl, by omega, q⟩, ?_⟩
    rintro v H' ⟨rfl, c, hc, rfl⟩
    exact ⟨hw _, hs i c _ (at_sg hc) p⟩
end
theorem inV_strs (z : Str) (ns : List Str) : inV (.str z) (ns.map V.str) = decide (z ∈ ns) := by
  unfold inV
  rw [List.any_map]
  by_cases h : z ∈ ns
  · rw [decide_eq_true h, List.any_eq_true]
    exact ⟨z, h, by show eqV (.str z) (.str z) = true; simp [eqV]⟩
  · rw [decide_eq_false h, Bool.eq_false_iff]
    intro c
    obtain ⟨y, m, e⟩ := List.any_eq_true.mp c
    have e' : eqV (.str y) (.str z) = true := e
    have : y = z := by simpa [eqV] using e'
    exact h (this ▸ m)
theorem r_inW {K : PySem.W.Frag} {H : Hp} {Q : VK} {a : Addr} {z : Str} {ns : List Str} (h : SqL K H a (ns.map V.str)) (q : Q (.bl (decide (z ∈ ns))) H) : rIn K false (.str z) (.ref a) H Q := by
  refine ⟨a, _, rfl, .inl h, rfl, ?_, ?_⟩
  · rw [List.all_eq_true]
    intro v m
    obtain ⟨y, _, rfl⟩ := List.mem_map.mp m
    rfl
  · rw [if_neg (by decide), inV_strs]
    exact q
theorem at_sgn {l : List Nat} {c : Nat} {z : Int} (j : Nat) (e : z = (j : Int)) (h : l[j]? = some c) : atI l z = some c := by
  rw [e]
  exact atI_nat h
theorem ix_nat {n : Nat} {z : Int} (j : Nat) (e : z = (j : Int)) (h : j < n) : ixN n z = some j := by
  subst e
  unfold ixN
  rw [if_pos (Int.natCast_nonneg j), if_pos (by omega)]
  rfl
theorem nl_sg : sg (Str.ofString "\n") = [10] := by rw [sg_lit]; rfl
theorem sp_sg : sg (Str.ofString " ") = [32] := by rw [sg_lit]; rfl
theorem em_sg : sg (Str.ofString "") = [] := by rw [sg_lit]; rfl
theorem str_nil {s : Str} : s = Str.ofString "" ↔ sg s = [] := ⟨fun h => by rw [h, em_sg], fun h => sg_ext (by rw [h, em_sg])⟩
theorem r_partI {i : Int} {R : Int → Prop} (h : R i) : ∃ j, V.int i = .int j ∧ R j := ⟨i, rfl, h⟩
theorem app_le {x y : Str} {a b : Nat} (h : x.length ≤ a) (k : y.length ≤ b) : (x ++ y).length ≤ a + b := by rw [len_app]; omega
theorem cut_le {x : Str} {lo hi : Option Int} {a : Nat} (h : x.length ≤ a) : (cutS x lo hi).length ≤ a := Nat.le_trans (cutS_length x lo hi) h
theorem lit_le (s : String) : (Str.ofString s).length ≤ s.toList.length := Nat.le_of_eq (len_lit s)
theorem mul_le {x : Str} {k : Int} {a : Nat} (h : x.length ≤ a) : (Txt.mul x k).length ≤ a * k.toNat := Nat.le_trans (mul_len x k) (Nat.mul_le_mul_right _ h)
theorem one_le (c : Nat) : (Str.mk #[c]).length ≤ 1 := Nat.le_refl 1
theorem tokS_mk {K : PySem.W.Frag} {h : Heap} {mg : Str → Option Value} {x : Str} {n : Str} {t : Tok} (KX : K.In h) (G : h.Ns mainGlobals mg) (a : PySem.W.nsIn K mainGlobals x = some (some (.str n t))) : ∃ t, mg x = some (.str n t) := ⟨t, PySem.W.mg_of KX G a⟩
end Vb
namespace K
open PySem PySem.Spec PyProof.Rows L2
def topS (i : Nat) : Stmt := PySem.Challenge.pw_sumtalk_k06_words_split_and_named.main.body.getD i (.Pass ⟨0, 0, 0, 0⟩)
abbrev s_BadName___init__ : Stmt := inClass (topS 5) 0
abbrev s_NoSuchName___init__ : Stmt := inClass (topS 6) 0
abbrev s_is_name : Stmt := topS 11
abbrev s_split_words : Stmt := topS 12
abbrev s__law_mix : Stmt := topS 14
abbrev s__law_store : Stmt := topS 15
abbrev s__law_take : Stmt := topS 16
abbrev s__law_edge : Stmt := topS 17
abbrev s__law_chance : Stmt := topS 18
abbrev s__law_pick : Stmt := topS 19
abbrev s__law_same : Stmt := topS 20
abbrev s__law_copy : Stmt := topS 21
abbrev s__law_spoil_list : Stmt := topS 22
abbrev s__law_letters : Stmt := topS 23
abbrev s__law_name : Stmt := topS 24
abbrev s__law_bad_name : Stmt := topS 25
abbrev s__law_text : Stmt := topS 26
abbrev s__law_words_due : Stmt := topS 27
abbrev s__law_splits : Stmt := topS 28
abbrev s__law_named : Stmt := topS 29
abbrev s__law_word : Stmt := topS 30
abbrev s__law_joined : Stmt := topS 31
abbrev s__law_bent : Stmt := topS 32
abbrev s__law_near_name : Stmt := topS 33
abbrev s_law : Stmt := topS 34
/-! what the top has written -/
structure Txt (K : PySem.W.Frag) (mg : Str → Option Value) where
  C_TalkError : Addr
  x_TalkError : Vb.Xn K mg "TalkError" C_TalkError
  C_OutOfRange : Addr
  x_OutOfRange : Vb.Xn K mg "OutOfRange" C_OutOfRange
  C_TooLarge : Addr
  x_TooLarge : Vb.Xn K mg "TooLarge" C_TooLarge
  C_BadText : Addr
  x_BadText : Vb.Xn K mg "BadText" C_BadText
  C_BadName : Addr
  g_BadName : mg "BadName" = some (.ref C_BadName)
  C_NoSuchName : Addr
  g_NoSuchName : mg "NoSuchName" = some (.ref C_NoSuchName)
  xk_BadText : Vb.Xk K C_BadText
  k_BadText_TooLarge : PySem.W.kitOne K (.ref C_BadText) (.ref C_TooLarge) = some false
  k_BadText_NoSuchName : PySem.W.kitOne K (.ref C_BadText) (.ref C_NoSuchName) = some false
  k_BadText_BadName : PySem.W.kitOne K (.ref C_BadText) (.ref C_BadName) = some false
  k_BadText_OutOfRange : PySem.W.kitOne K (.ref C_BadText) (.ref C_OutOfRange) = some false
  k_BadText_TalkError : PySem.W.kitOne K (.ref C_BadText) (.ref C_TalkError) = some true
  k_BadText_ValueError : PySem.W.kitOne K (.ref C_BadText) (.type "ValueError") = some true
  f_is_name : Addr
  fd_is_name : FuncData
  d_is_name : Vb.Dn K mg "is_name" s_is_name ["word"] f_is_name fd_is_name
  f_split_words : Addr
  fd_split_words : FuncData
  d_split_words : Vb.Dn K mg "split_words" s_split_words ["text"] f_split_words fd_split_words
  f__law_mix : Addr
  fd__law_mix : FuncData
  d__law_mix : Vb.Dn K mg "_law_mix" s__law_mix ["number", "turn"] f__law_mix fd__law_mix
  f__law_store : Addr
  fd__law_store : FuncData
  d__law_store : Vb.Dn K mg "_law_store" s__law_store ["script"] f__law_store fd__law_store
  f__law_take : Addr
  fd__law_take : FuncData
  d__law_take : Vb.Dn K mg "_law_take" s__law_take ["store", "many"] f__law_take fd__law_take
  f__law_edge : Addr
  fd__law_edge : FuncData
  d__law_edge : Vb.Dn K mg "_law_edge" s__law_edge ["store", "low", "high"] f__law_edge fd__law_edge
  f__law_chance : Addr
  fd__law_chance : FuncData
  d__law_chance : Vb.Dn K mg "_law_chance" s__law_chance ["store", "part"] f__law_chance fd__law_chance
  f__law_pick : Addr
  fd__law_pick : FuncData
  d__law_pick : Vb.Dn K mg "_law_pick" s__law_pick ["store", "row"] f__law_pick fd__law_pick
  f__law_same : Addr
  fd__law_same : FuncData
  d__law_same : Vb.Dn K mg "_law_same" s__law_same ["actual", "expected"] f__law_same fd__law_same
  f__law_copy : Addr
  fd__law_copy : FuncData
  d__law_copy : Vb.Dn K mg "_law_copy" s__law_copy ["value"] f__law_copy fd__law_copy
  f__law_spoil_list : Addr
  fd__law_spoil_list : FuncData
  d__law_spoil_list : Vb.Dn K mg "_law_spoil_list" s__law_spoil_list ["row"] f__law_spoil_list fd__law_spoil_list
  f__law_letters : Addr
  fd__law_letters : FuncData
  d__law_letters : Vb.Dn K mg "_law_letters" s__law_letters ["store", "size"] f__law_letters fd__law_letters
  f__law_name : Addr
  fd__law_name : FuncData
  d__law_name : Vb.Dn K mg "_law_name" s__law_name ["store"] f__law_name fd__law_name
  f__law_bad_name : Addr
  fd__law_bad_name : FuncData
  d__law_bad_name : Vb.Dn K mg "_law_bad_name" s__law_bad_name ["store"] f__law_bad_name fd__law_bad_name
  f__law_text : Addr
  fd__law_text : FuncData
  d__law_text : Vb.Dn K mg "_law_text" s__law_text ["store", "size"] f__law_text fd__law_text
  f__law_words_due : Addr
  fd__law_words_due : FuncData
  d__law_words_due : Vb.Dn K mg "_law_words_due" s__law_words_due ["text"] f__law_words_due fd__law_words_due
  f__law_splits : Addr
  fd__law_splits : FuncData
  d__law_splits : Vb.Dn K mg "_law_splits" s__law_splits ["text"] f__law_splits fd__law_splits
  f__law_named : Addr
  fd__law_named : FuncData
  d__law_named : Vb.Dn K mg "_law_named" s__law_named ["value"] f__law_named fd__law_named
  f__law_word : Addr
  fd__law_word : FuncData
  d__law_word : Vb.Dn K mg "_law_word" s__law_word ["store", "size"] f__law_word fd__law_word
  f__law_joined : Addr
  fd__law_joined : FuncData
  d__law_joined : Vb.Dn K mg "_law_joined" s__law_joined ["store"] f__law_joined fd__law_joined
  f__law_bent : Addr
  fd__law_bent : FuncData
  d__law_bent : Vb.Dn K mg "_law_bent" s__law_bent ["store", "text"] f__law_bent fd__law_bent
  f__law_near_name : Addr
  fd__law_near_name : FuncData
  d__law_near_name : Vb.Dn K mg "_law_near_name" s__law_near_name ["store"] f__law_near_name fd__law_near_name
  f_law : Addr
  fd_law : FuncData
  d_law : Vb.Dn K mg "law" s_law ["script"] f_law fd_law
  t_LETTERS : Tok
  c_LETTERS : mg "LETTERS" = some (.str (Str.ofString "abcdefghijklmnopqrstuvwxyz") t_LETTERS)
  t_FIGURES : Tok
  c_FIGURES : mg "FIGURES" = some (.str (Str.ofString "0123456789") t_FIGURES)
  t_MAX_NAME : Tok
  c_MAX_NAME : mg "MAX_NAME" = some (.int 12 t_MAX_NAME)
  n_ValueError : mg "ValueError" = none
  n_max : mg "max" = none
  n_isinstance : mg "isinstance" = none
  n_int : mg "int" = none
  n_str : mg "str" = none
  n_list : mg "list" = none
  n_range : mg "range" = none
  n_tuple : mg "tuple" = none
  n_all : mg "all" = none
  n_len : mg "len" = none
  n_bool : mg "bool" = none
  n_abs : mg "abs" = none
  n_min : mg "min" = none
end K
local macro_rules | `(tactic| walk_at "rd1") => `(tactic| first
  | (with_reducible refine' Vb.r_var ?h_ ?k_); (case h_ => exact rfl)
  | with_reducible refine Vb.r_c ?_
  | with_reducible refine Vb.r_op ?_
  | with_reducible refine Vb.r_un ?_
  | with_reducible refine Vb.r_I0 ?_
  | (with_reducible refine Vb.r_I ?h_ ?_); (case h_ => walk_at "side")
  | with_reducible refine Vb.r_U ?_
  | with_reducible refine Vb.r_eqI ?_
  | with_reducible refine Vb.r_neI ?_
  | with_reducible refine Vb.r_test ?_
  | with_reducible refine Vb.r_tB ?_
  | with_reducible refine Vb.r_bl ?_
  | with_reducible refine Vb.r_and ?_
  | with_reducible refine Vb.r_or ?_
  | with_reducible refine Vb.r_not ?_
  | with_reducible refine Vb.r_andV ?_
  | with_reducible refine Vb.r_orV ?_
  | with_reducible refine Vb.r_notV ?_
  | with_reducible refine Vb.r_if ?_
  | with_reducible refine Vb.r_chain ?_
  | with_reducible refine Vb.r_iteT ?_
  | with_reducible refine Vb.r_iteF ?_
  | with_reducible refine Vb.r_iteNT ?_
  | with_reducible refine Vb.r_iteNF ?_
  | with_reducible refine Vb.r_nil ?_
  | with_reducible refine Vb.r_cons ?_
  | with_reducible refine Vb.r_tup ?_
  | with_reducible refine Vb.r_lst ?_
  | with_reducible refine Vb.r_CB ?_
  | with_reducible refine Vb.r_callS ?_
  | with_reducible refine Vb.r_call ?_
  | with_reducible refine Vb.r_BM ?_
  | with_reducible refine Vb.r_seq_set ?_
  | with_reducible refine Vb.r_seq_sub ?_
  | with_reducible refine Vb.r_seq_when ?_
  | with_reducible refine Vb.r_seq_if ?_
  | with_reducible refine Vb.r_seq_drop ?_
  | with_reducible refine Vb.r_seq ?_
  | with_reducible refine Vb.r_set ?_
  | with_reducible refine Vb.r_sub ?_
  | with_reducible refine Vb.r_when ?_
  | with_reducible refine Vb.r_ifs ?_
  | with_reducible refine Vb.r_drop ?_
  | with_reducible refine Vb.r_ret ?_
  | with_reducible refine Vb.r_brk ?_
  | with_reducible refine Vb.r_cnt ?_
  | with_reducible refine Vb.r_nxt ?_
  | with_reducible refine Vb.r_for ?_
  | with_reducible refine Vb.r_rng1 ?_
  | with_reducible refine Vb.r_rng2 ?_
  | with_reducible refine Vb.r_iList ?_
  | with_reducible refine Vb.r_gName ?_
  | with_reducible refine Vb.r_lc ?_
  | with_reducible refine Vb.lct_yes ?_
  | with_reducible refine Vb.lct_if ?_
  | with_reducible refine Vb.r_rng3 ?_
  | with_reducible refine Vb.r_rngW ?_
  | with_reducible refine Vb.r_eqBs ?_
  | with_reducible refine Vb.r_eqB ?_
  | with_reducible refine Vb.r_neB ?_
  | with_reducible refine Vb.r_eqS ?_
  | with_reducible refine Vb.r_neS ?_
  | with_reducible refine Vb.r_revL ?_
  | with_reducible refine Vb.r_isBl ?_
  | with_reducible refine Vb.r_notBl ?_
  | with_reducible refine Vb.r_sl ?_
  | with_reducible refine Vb.r_noP ?_
  | with_reducible refine Vb.r_part ?_
  | with_reducible refine Vb.r_iTup ?_
  | with_reducible refine Vb.r_isN ?_
  | with_reducible refine Vb.r_partI ?_
  | with_reducible refine Vb.r_M1 ?_
  | with_reducible refine Vb.r_M0 ?_
  | with_reducible refine Vb.r_strA ?_
  | with_reducible refine Vb.r_iStr ?_
  | with_reducible refine Vb.f_str ?_
  | with_reducible refine Vb.r_inSg ?_
  | with_reducible refine Vb.r_niSg ?_
  | (with_reducible refine Vb.r_addS ?h1_ ?_); (case h1_ => walk_at "sz")
  | (with_reducible refine Vb.r_cutS ?h1_ ?_); (case h1_ => walk_at "sz")
  | (with_reducible refine Vb.r_lenS ?h1_ ?_); (case h1_ => walk_at "sz")
  | with_reducible refine Vb.r_sfld ?_
  | with_reducible refine Vb.r_tfld ?_
  | with_reducible refine Vb.r_meth ?_
  | with_reducible refine Vb.r_make ?_
  | with_reducible refine Vb.r_methK ?_
  | with_reducible refine Vb.r_listRg ?_
  | with_reducible refine Vb.r_rg1 ?_
  | with_reducible refine Vb.r_rg2 ?_
  | with_reducible refine Vb.r_notN ?_
  | with_reducible refine Vb.r_BM0 ?_
  | with_reducible refine Vb.r_abs ?_
  | with_reducible refine Vb.r_max2 ?_
  | with_reducible refine Vb.r_min2 ?_
  | with_reducible refine Vb.r_int ?_
  | with_reducible refine Vb.r_intB ?_
  | (with_reducible refine' Vb.r_ixL ?h1_ ?h2_ ?k_); (case h1_ => walk_at "hp"); (case h2_ => walk_at "at")
  | (with_reducible refine' Vb.r_ixT ?h1_ ?h2_ ?k_); (case h1_ => walk_at "hp"); (case h2_ => walk_at "at")
  | (with_reducible refine' Vb.r_len ?h1_ ?k_); (case h1_ => walk_at "hp")
  | (with_reducible refine' Vb.r_lenT ?h1_ ?k_); (case h1_ => walk_at "hp")
  | (with_reducible refine' Vb.r_setL ?h1_ ?h2_ ?k_); (case h1_ => walk_at "hp"); (case h2_ => walk_at "at")
  | (with_reducible refine' Vb.r_rev ?h1_ ?k_); (case h1_ => walk_at "hp")
  | (with_reducible refine' Vb.r_isB ?h1_ ?h2_ ?k_); (case h1_ => assumption); (case h2_ => first | exact (rfl : _ = true) | exact (rfl : _ = false) | exact rfl)
  | (with_reducible refine' Vb.r_isI ?h1_ ?h2_ ?k_); (case h1_ => assumption); (case h2_ => first | exact (rfl : _ = true) | exact (rfl : _ = false) | exact rfl)
  | (with_reducible refine' Vb.r_isS ?h1_ ?h2_ ?k_); (case h1_ => assumption); (case h2_ => first | exact (rfl : _ = true) | exact (rfl : _ = false) | exact rfl)
  | (with_reducible refine' Vb.r_isL ?h1_ ?h2_ ?k_); (case h1_ => assumption); (case h2_ => first | exact (rfl : _ = true) | exact (rfl : _ = false) | exact rfl)
  | (with_reducible refine' Vb.r_isT ?h1_ ?h2_ ?k_); (case h1_ => assumption); (case h2_ => first | exact (rfl : _ = true) | exact (rfl : _ = false) | exact rfl)
  | (with_reducible refine Vb.f_rng1 ?h1_ ?h2_ ?_); (case h1_ => walk_at "side"); (case h2_ => walk_at "side")
  | (with_reducible refine Vb.f_rng2 ?h1_ ?_); (case h1_ => walk_at "side4")
  | (with_reducible refine Vb.c_rng1 ?h1_ ?h2_ ?_); (case h1_ => walk_at "side"); (case h2_ => walk_at "side")
  | (with_reducible refine Vb.c_rng2 ?h1_ ?_); (case h1_ => walk_at "side4")
  | (with_reducible refine' Vb.f_list ?h1_ ?k_); (case h1_ => walk_at "hp")
  | (with_reducible refine' Vb.f_tup ?h1_ ?k_); (case h1_ => walk_at "hp")
  | (with_reducible refine' Vb.c_list ?h1_ ?k_); (case h1_ => walk_at "hp")
  | (with_reducible refine' Vb.c_tup ?h1_ ?k_); (case h1_ => walk_at "hp")
  | (with_reducible refine Vb.f_rngW ?h1_ ?_); (case h1_ => walk_at "sideW")
  | (with_reducible refine Vb.c_rngW ?h1_ ?_); (case h1_ => walk_at "sideW")
  | (with_reducible refine' Vb.r_ty ?h1_ ?k_); (case h1_ => walk_at "hp")
  | (with_reducible refine' Vb.r_isXr ?h1_ ?h2_ ?k_); (case h1_ => assumption); (case h2_ => walk_at "xd")
  | (with_reducible refine' Vb.r_isXt ?h1_ ?h2_ ?k_); (case h1_ => assumption); (case h2_ => walk_at "xd")
  | (with_reducible refine Vb.r_xf ?_)
  | (with_reducible refine' Vb.r_atM ?h1_ ?h2_ ?k_); (case h1_ => walk_at "hp"); (case h2_ => exact rfl)
  | (with_reducible refine' Vb.r_fldV ?h1_ ?h2_ ?h3_ ?h4_ ?k_); (case h1_ => walk_at "hp"); (case h2_ => assumption); (case h3_ => assumption); (case h4_ => exact rfl)
  | (with_reducible refine' Vb.r_app ?h1_ ?h2_ ?k_); (case h1_ => walk_at "hp"); (case h2_ => walk_at "side"))
local macro_rules | `(tactic| walk_at "rd") => `(tactic| repeat walk_at "rd1")
local macro_rules | `(tactic| walk_at "side") => `(tactic| first | decide | omega | assumption | (refine Vb.size_lt ?_; (try simp only [List.length_map, List.length_append, List.length_cons, List.length_nil]); omega) | (refine Vb.size_ok ?_; (try simp only [List.length_map, List.length_append, List.length_cons, List.length_nil]); omega) | exact ⟨by decide, by decide +kernel⟩ | (constructor <;> omega) | (refine Or.inl ⟨?_, ?_⟩ <;> omega) | (refine Or.inr ⟨?_, ?_⟩ <;> omega) | (refine Or.inr ⟨?_, ?_⟩ <;> decide) | (refine Or.inl ⟨?_, ?_⟩ <;> decide))
local macro_rules | `(tactic| walk_at "hp") => `(tactic| first
  | assumption
  | exact L2.upd_same
  | ((with_reducible apply Vb.sq_of); walk_at "hp")
  | ((with_reducible apply Vb.st_of); walk_at "hp")
  | ((with_reducible refine' Vb.h_new ?n1_ ?k_); (case n1_ => assumption); (case k_ => walk_at "hp"))
  | ((with_reducible refine' Vb.h_ne ?n1_ ?k_); (case n1_ => assumption); (case k_ => walk_at "hp"))
  | ((with_reducible refine' Vb.h_ne ?n1_ ?k_); (case n1_ => exact Ne.symm (by assumption)); (case k_ => walk_at "hp"))
  | ((with_reducible refine' Vb.h_same ?n1_ ?k_); (case n1_ => assumption); (case k_ => walk_at "hp"))
  | ((with_reducible refine' Vb.h_fr ?n1_ ?n2_ ?k_); (case n1_ => assumption); (case n2_ => assumption); (case k_ => walk_at "hp")))
local macro_rules | `(tactic| walk_at "at") => `(tactic| first | exact Vb.at_lit 0 rfl rfl | exact Vb.at_lit 1 rfl rfl | exact Vb.at_lit 2 rfl rfl | exact Vb.at_lit 3 rfl rfl | exact Vb.at_lit 4 rfl rfl | exact Vb.ix_lit 1 rfl rfl | exact Vb.ix_lit 2 rfl rfl | exact Vb.ix_lit 3 rfl rfl | exact Vb.ix_lit 0 rfl rfl | exact Vb.ix_lit 4 rfl rfl | exact Vb.at_lit _ (by omega) (by assumption))
local macro_rules | `(tactic| walk_at "side4") => `(tactic| (refine ⟨?_, ?_, ?_, ?_⟩ <;> omega))
local macro_rules | `(tactic| walk_at "sideW") => `(tactic| first | (refine Or.inl ⟨?_, ?_, ?_, ?_⟩ <;> omega) | (refine Or.inr ?_; omega) | omega)
local macro_rules | `(tactic| walk_at "xd") => `(tactic| first | exact Or.inl rfl | exact Or.inr ⟨_, _, rfl, by walk_at "hp"⟩)
local macro_rules | `(tactic| walk_at "sm") => `(tactic| first
  | exact L2.Same.refl _
  | assumption
  | ((with_reducible refine' Vb.sm_new ?k_ ?n1_); (case n1_ => assumption); (case k_ => walk_at "sm"))
  | ((with_reducible refine' L2.Same.trans ?k_ ?n1_); (case n1_ => assumption); (case k_ => walk_at "sm"))
  | ((with_reducible refine' Vb.same_mut ?k_ ?n1_); (case n1_ => assumption); (case k_ => walk_at "sm")))
local macro_rules | `(tactic| walk_at "fr") => `(tactic| first
  | exact Vb.Fr.refl _ _
  | assumption
  | ((with_reducible refine' Vb.fr_new ?k_ ?n1_); (case n1_ => assumption); (case k_ => walk_at "fr"))
  | ((with_reducible refine' Vb.Fr.trans ?k_ ?n1_); (case n1_ => assumption); (case k_ => walk_at "fr"))
  | ((with_reducible refine' Vb.fr_same ?k_ ?n1_); (case n1_ => assumption); (case k_ => walk_at "fr")))
local macro_rules | `(tactic| walk_at "st") => `(tactic| first
  | assumption
  | ((with_reducible refine' Vb.st_new ?k_ ?n1_); (case n1_ => assumption); (case k_ => walk_at "st"))
  | ((with_reducible refine' Vb.StoreAt.same ?k_ ?n1_); (case n1_ => assumption); (case k_ => walk_at "st")))
local macro_rules | `(tactic| walk_at "rx1") => `(tactic| first
  | walk_at "rd1"
  | ((with_reducible refine' Vb.r_newO ?h1_ (fun l_ n_ => ?k_)); (case h1_ => exact Vb.size_ok (Nat.le_of_ble_eq_true rfl))))
local macro_rules | `(tactic| walk_at "rx") => `(tactic| repeat walk_at "rx1")
local macro_rules | `(tactic| walk_at "ln") => `(tactic| first
  | (with_reducible assumption)
  | ((try simp only [Vb.len_app, Vb.len_lit, Vb.len_one, String.reduceToList, List.length_cons, List.length_nil] at *); omega))
local macro_rules | `(tactic| walk_at "sz") => `(tactic| (refine Vb.size_ok ?_; (try simp only [Vb.len_app, Vb.len_lit, Vb.len_one, String.reduceToList, List.length_cons, List.length_nil]); omega))

namespace K
open PySem PySem.Spec PyProof.Rows L2
abbrev N__law_mix : List Str := ["number", "turn", "one", "two", "three"]
theorem sc__law_mix : FnScope N__law_mix ["number", "turn"] (defScope s__law_mix) := ⟨rfl, rfl, rfl, by decide +kernel, rfl, by decide +kernel, by decide +kernel⟩
section
variable {P : Program} {w : World} {K : PySem.W.Frag} {mg : Str → Option Value} {base : Heap}
def sp_mix (K : PySem.W.Frag) : Sp := fun vs H Q _ => ∃ a b : Int, vs = [.int a, .int b] ∧ ∀ r : Int, Q (.int r) H
theorem ok_mix (T : Txt K mg) : FnOk P w K mg base (L2N.CX P w) 1 T.f__law_mix T.fd__law_mix ["number", "turn"] (sp_mix K) := by
  refine Vb.okN T.d__law_mix.F sc__law_mix (fun vs H Q E h => ?_) (fun cdv A outer s H vs Q E hr h => ?_)
  · obtain ⟨a, b, rfl, _⟩ := h
    rfl
  · obtain ⟨a, b, rfl, q⟩ := h
    refine ⟨_, (pss_cons (ps_set (i := 2) sc__law_mix.nd rfl (by first | exact Or.inl rfl | exact Or.inr rfl) (pe_op op_mod (pe_callTy Vb.call_int (by rfl) T.n_int (by decide +kernel) (pa_cons (pe_op op_add (pe_op op_add (pe_op op_mul (pv 0) pe_int) (pe_op op_mul (pv 1) pe_int)) pe_int) pa_nil)) pe_int))
      (pss_cons (ps_set (i := 3) sc__law_mix.nd rfl (by first | exact Or.inl rfl | exact Or.inr rfl) (pe_op op_mod (pe_callTy Vb.call_int (by rfl) T.n_int (by decide +kernel) (pa_cons (pe_op op_add (pe_op op_add (pe_op op_mul (pv 2) (pv 2)) (pe_op op_mul (pv 1) pe_int)) pe_int) pa_nil)) pe_int))
      (pss_cons (ps_set (i := 4) sc__law_mix.nd rfl (by first | exact Or.inl rfl | exact Or.inr rfl) (pe_op op_mod (pe_callTy Vb.call_int (by rfl) T.n_int (by decide +kernel) (pa_cons (pe_op op_add (pe_op op_mul (pv 3) (pe_op op_add (pe_op op_fdiv (pv 3) pe_int) pe_int)) (pv 2)) pa_nil)) pe_int))
      (pss_one (ps_ret (pe_op op_fdiv (pv 4) pe_int)))))), ?_⟩
    (change (_ : L2.TS) _ ([some (.int a), some (.int b), none, none, none] : L2.St) _); try dsimp only [L2.cxOf, L2H.cxH]
    walk_at "rd"
    exact q _
theorem use_mix {K : PySem.W.Frag} {a b : Int} {H : Hp} {Q : VK} {E : XK} (h : ∀ r : Int, Q (.int r) H) : sp_mix K [.int a, .int b] H Q E := ⟨a, b, rfl, h⟩
end
end K
namespace K
open PySem PySem.Spec PyProof.Rows L2
abbrev N__law_take : List Str := ["store", "many", "cell", "rest"]
theorem sc__law_take : FnScope N__law_take ["store", "many"] (defScope s__law_take) := ⟨rfl, rfl, rfl, by decide +kernel, rfl, by decide +kernel, by decide +kernel⟩
section
variable {P : Program} {w : World} {K : PySem.W.Frag} {mg : Str → Option Value} {base : Heap}
def sp_take (K : PySem.W.Frag) : Sp := fun vs H Q _ => ∃ (st : Addr) (m : Int), vs = [.ref st, .int m] ∧ Vb.StoreAt H st ∧ m < 1073741824 ∧ ∀ (v : Int) (H' : Hp), 0 ≤ v → (1 < m → v < m) → (m ≤ 1 → v = 0) → Vb.Fr st H H' → Vb.StoreAt H' st → Q (.int v) H'
theorem ok_take (T : Txt K mg) : FnOk P w K mg base (L2N.CX P w) 2 T.f__law_take T.fd__law_take ["store", "many"] (sp_take K) := by
  have G__law_mix := ok_mix (P := P) (w := w) (base := base) T
  refine Vb.okN T.d__law_take.F sc__law_take (fun vs H Q E h => ?_) (fun cdv A outer s H vs Q E hr h => ?_)
  · obtain ⟨a, b, rfl, _⟩ := h
    rfl
  · obtain ⟨st, m, rfl, ⟨l, ns, pos, rest, turn, seed, hl, h1, h2, h3, h4⟩, hm, q⟩ := h
    refine ⟨_, (pss_cons (ps_set (i := 1) sc__law_take.nd rfl (by first | exact Or.inl rfl | exact Or.inr rfl) (pe_callB (Vb.call_max2 rfl) (by rfl) T.n_max (by decide +kernel) (pa_cons pe_int (pa_cons (pv 1) pa_nil))))
      (pss_cons (ps_asg (pe_op op_add (pe_callTy Vb.call_int (by rfl) T.n_int (by decide +kernel) (pa_cons (pe_ix ix_list (pv 0) pe_int (fun _ _ => rfl)) pa_nil)) pe_int) (pg_sub (pv 0) pe_int set_list))
      (pss_cons (ps_if (PW.pt (pw_and (pt_cmpR op_eq (pe_ix ix_list (pv 0) pe_int (fun _ _ => rfl)) pe_int (nomark _)) (pw_and1 (pt_cmpR op_lt (pe_ix ix_list (pv 0) pe_int (fun _ _ => rfl)) (pe_callB Vb.call_len (by rfl) T.n_len (by decide +kernel) (pa_cons (pe_ix ix_list (pv 0) pe_int (fun _ _ => rfl)) pa_nil)) (nomark _))))) (pss_cons (ps_set (i := 2) sc__law_take.nd rfl (by first | exact Or.inl rfl | exact Or.inr rfl) (pe_callTy Vb.call_int (by rfl) T.n_int (by decide +kernel) (pa_cons (pe_ix ix_list (pe_ix ix_list (pv 0) pe_int (fun _ _ => rfl)) (pe_ix ix_list (pv 0) pe_int (fun _ _ => rfl)) (fun _ _ => rfl)) pa_nil)))
      (pss_cons (ps_asg (pe_op op_add (pe_ix ix_list (pv 0) pe_int (fun _ _ => rfl)) pe_int) (pg_sub (pv 0) pe_int set_list))
      (pss_cons (ps_if (pt_cmpR op_lt (pe_callB Vb.call_abs (by rfl) T.n_abs (by decide +kernel) (pa_cons (pv 2) pa_nil)) (pe_op Vb.op_powB pe_int pe_int) (nomark _)) (pss_one (ps_ret (pe_op op_mod (pe_callTy Vb.call_int (by rfl) T.n_int (by decide +kernel) (pa_cons (pe_callS G__law_mix (hr.mono (by first | decide | omega)) (by rfl) T.d__law_mix.g T.d__law_mix.F.kp T.d__law_mix.b (fun σ => L2N.passAt (L2N.takes_of rfl rfl rfl rfl) σ) (pa_cons (pv 2) (pa_cons (pe_ix ix_list (pv 0) pe_int (fun _ _ => rfl)) pa_nil))) pa_nil)) (pv 1)))) pss_nil)
      (pss_one (ps_asg (pe_op op_mod (pe_callB Vb.call_abs (by rfl) T.n_abs (by decide +kernel) (pa_cons (pv 2) pa_nil)) (pe_op Vb.op_powB (pe_op Vb.op_powB pe_int pe_int) pe_int)) (pg_sub (pv 0) pe_int set_list)))))) pss_nil)
      (pss_cons (ps_if (pt_cmpR op_gt (pe_ix ix_list (pv 0) pe_int (fun _ _ => rfl)) pe_int (nomark _)) (pss_cons (ps_set (i := 3) sc__law_take.nd rfl (by first | exact Or.inl rfl | exact Or.inr rfl) (pe_callTy Vb.call_int (by rfl) T.n_int (by decide +kernel) (pa_cons (pe_ix ix_list (pv 0) pe_int (fun _ _ => rfl)) pa_nil)))
      (pss_cons (ps_asg (pe_op op_fdiv (pv 3) (pv 1)) (pg_sub (pv 0) pe_int set_list))
      (pss_one (ps_ret (pe_op op_mod (pv 3) (pv 1)))))) pss_nil)
      (pss_one (ps_ret (pe_op op_mod (pe_callTy Vb.call_int (by rfl) T.n_int (by decide +kernel) (pa_cons (pe_callS G__law_mix (hr.mono (by first | decide | omega)) (by rfl) T.d__law_mix.g T.d__law_mix.F.kp T.d__law_mix.b (fun σ => L2N.passAt (L2N.takes_of rfl rfl rfl rfl) σ) (pa_cons (pe_ix ix_list (pv 0) pe_int (fun _ _ => rfl)) (pa_cons (pe_ix ix_list (pv 0) pe_int (fun _ _ => rfl)) pa_nil))) pa_nil)) (pv 1)))))))), ?_⟩
    (change (_ : L2.TS) _ ([some (.ref st), some (.int m), none, none] : L2.St) _); try dsimp only [L2.cxOf, L2H.cxH]
    walk_at "rd"
    have hd : ∀ {H' : Hp} {t : List V}, H' st = some (.lst (.ref l :: t)) → ∀ (l' : Addr) (r : List V), H st = some (.lst (.ref l' :: r)) → ∃ r', H' st = some (.lst (.ref l' :: r')) := fun e l' r h => by
      rw [h1] at h
      cases h
      exact ⟨_, e⟩
    have hmm : 0 < (if m > 1 then m else 1) := by split <;> omega
    have hm2 : (if m > 1 then m else 1) < 1073741824 := by split <;> omega
    have out : ∀ (z : Int) (H' : Hp), Vb.Fr st H H' → Vb.StoreAt H' st → Q (.int (z % (if m > 1 then m else 1))) H' := fun z H' f1 f2 => by
      have e1 := Int.emod_nonneg z (show (if m > 1 then m else 1) ≠ 0 by omega)
      have e2 := Int.emod_lt_of_pos z hmm
      generalize z % (if m > 1 then m else 1) = r at e1 e2 ⊢
      refine q _ _ e1 (fun h => ?_) (fun h => ?_) f1 f2
      · rw [if_pos h] at e2; exact e2
      · rw [if_neg (by omega)] at e2; omega
    have nz : ∀ z : Int, 0 ≤ z → 0 ≤ z / (if m > 1 then m else 1) := fun z h => Int.ediv_nonneg h (by omega)
    generalize (if m > 1 then m else 1) = mm at hmm hm2 out nz ⊢
    refine Vb.r_ite (fun c1 => ?_) (fun c1 => ?_)
    · walk_at "rd"
      refine Vb.r_ite (fun c2 => ?_) (fun c2 => ?_)
      · walk_at "rd"
        rw [List.length_map] at c2
        have hz : (ns.map V.int)[pos.toNat]? = some (.int ns[pos.toNat]) := Vb.getV (by omega)
        refine Vb.r_ixL (by walk_at "hp") (Vb.at_lit pos.toNat (by omega) hz) ?_
        generalize ns[pos.toNat] = cell
        walk_at "rd"
        refine Vb.r_ite (fun c3 => ?_) (fun c3 => ?_)
        · walk_at "rd"
          refine use_mix fun r => ?_
          walk_at "rd"
          refine out _ _ ⟨fun b o n h => by walk_at "hp", hd L2.upd_same⟩ ⟨l, ns, pos + 1, rest, turn + 1, seed, hl, L2.upd_same, by walk_at "hp", by omega, h4⟩
        · walk_at "rd"
          have hg : 0 ≤ (if cell < 0 then -cell else cell) % (10 ^ Int.toNat 60) ^ Int.toNat 20 := Int.emod_nonneg _ (by decide +kernel)
          generalize (if cell < 0 then -cell else cell) % (10 ^ Int.toNat 60) ^ Int.toNat 20 = gr at hg ⊢
          refine Vb.r_ite (fun c4 => ?_) (fun c4 => ?_)
          · walk_at "rd"
            refine out _ _ ⟨fun b o n h => by walk_at "hp", hd L2.upd_same⟩ ⟨l, ns, pos + 1, gr / mm, turn + 1, seed, hl, L2.upd_same, by walk_at "hp", by omega, nz _ hg⟩
          · walk_at "rd"
            refine use_mix fun r => ?_
            walk_at "rd"
            refine out _ _ ⟨fun b o n h => by walk_at "hp", hd L2.upd_same⟩ ⟨l, ns, pos + 1, gr, turn + 1, seed, hl, L2.upd_same, by walk_at "hp", by omega, hg⟩
      · walk_at "rd"
        refine Vb.r_ite (fun c3 => absurd c3 (by omega)) (fun c3 => ?_)
        walk_at "rd"
        refine use_mix fun r => ?_
        walk_at "rd"
        refine out _ _ ⟨fun b o n h => by walk_at "hp", hd L2.upd_same⟩ ⟨l, ns, pos, rest, turn + 1, seed, hl, L2.upd_same, by walk_at "hp", by omega, h4⟩
    · walk_at "rd"
      refine Vb.r_ite (fun c3 => ?_) (fun c3 => absurd c3 (by omega))
      walk_at "rd"
      refine out _ _ ⟨fun b o n h => by walk_at "hp", hd L2.upd_same⟩ ⟨l, ns, pos, rest / mm, turn + 1, seed, hl, L2.upd_same, by walk_at "hp", h3, nz _ h4⟩
theorem use_take {st : Addr} {m : Int} {H : Hp} {Q : VK} {E : XK} (h1 : Vb.StoreAt H st) (h2 : m < 1073741824) (h : ∀ (v : Int) (H' : Hp), 0 ≤ v → (1 < m → v < m) → (m ≤ 1 → v = 0) → Vb.Fr st H H' → Vb.StoreAt H' st → Q (.int v) H') : sp_take K [.ref st, .int m] H Q E := ⟨st, m, rfl, h1, h2, h⟩
end
end K
namespace K
open PySem PySem.Spec PyProof.Rows L2


abbrev N__law_same : List Str := ["actual", "expected", "fitting", "k"]
theorem sc__law_same : FnScope N__law_same ["actual", "expected"] (defScope s__law_same) := ⟨rfl, rfl, rfl, by decide +kernel, rfl, by decide +kernel, by decide +kernel⟩
section
variable {P : Program} {w : World} {K : PySem.W.Frag} {mg : Str → Option Value} {base : Heap}
/-- two values of one piece of data are told to be the same; n: how deep it is -/
def sp_same (K : PySem.W.Frag) : Nat → Sp
  | 0 => fun _ _ _ _ => False
  | n + 1 => fun vs H Q _ => ∃ (v u : V) (d : PyData), vs = [v, u] ∧ Dp K H v d ∧ Dp K H u d ∧ Vb.DOk (n + 1) d ∧ Q (.bl true) H
theorem use_same {n : Nat} {v u : V} {H : Hp} {Q : VK} {E : XK} (d : PyData) (h1 : Dp K H v d) (h2 : Dp K H u d) (h3 : Vb.DOk (n + 1) d) (q : Q (.bl true) H) : sp_same K (n + 1) [v, u] H Q E := ⟨v, u, d, rfl, h1, h2, h3, q⟩
/-- the loop over the items -/
theorem same_items {n : Nat} {H : Hp} {xs ys : List V} {ds : List PyData} (a : DpAll K H xs ds) (b : DpAll K H ys ds) (h : ∀ d ∈ ds, Vb.DOk n d) {i : Nat} (hi : i < ds.length) : ∃ x y d, xs[i]? = some x ∧ ys[i]? = some y ∧ Dp K H x d ∧ Dp K H y d ∧ Vb.DOk n d := by
  obtain ⟨x, e1, h1⟩ := Vb.dpa_at a (List.getElem?_eq_getElem hi)
  obtain ⟨y, e2, h2⟩ := Vb.dpa_at b (List.getElem?_eq_getElem hi)
  exact ⟨x, y, ds[i], e1, e2, h1, h2, h _ (List.getElem_mem hi)⟩
theorem not_non {H : Hp} {v : V} {d : PyData} (h : Dp K H v d) (hd : d ≠ .none) : decide (v = .non) = false := by
  cases h with
  | non => exact absurd rfl hd
  | _ => rfl
theorem ok_same (T : Txt K mg) : ∀ n, FnOk P w K mg base (L2N.CX P w) (n + 1) T.f__law_same T.fd__law_same ["actual", "expected"] (sp_same K n)
  | 0 => ⟨fun _ _ _ _ h => h.elim, fun _ _ _ _ _ _ _ _ _ _ _ _ _ h => h.elim⟩
  | n + 1 => by
    have G__law_same := ok_same T n
    refine Vb.okN T.d__law_same.F sc__law_same (fun vs H Q E h => ?_) (fun cdv A outer s H vs Q E hr h => ?_)
    · obtain ⟨v, u, d, rfl, _⟩ := h
      rfl
    · obtain ⟨v, u, d, rfl, h1, h2, h3, q⟩ := h
      refine ⟨_, (pss_cons (ps_if (PW.pt (pw_or (pt_cmpR Vb.op_isN (pv 1) pe_non (nomark _)) (pw_or1 (pt_cmpR Vb.op_isN (pv 0) pe_non (nomark _))))) (pss_one (ps_ret (pe_and (pe_cmpR Vb.op_isN (pv 1) pe_non (nomark _)) (pe_one (pe_cmpR Vb.op_isN (pv 0) pe_non (nomark _)))))) pss_nil)
      (pss_cons (ps_if (PW.pt (pw_or (pt_val (pe_callB call_isi (by rfl) T.n_isinstance (by decide +kernel) (pa_cons (pv 1) (pa_cons (pe_bltn (v := .ty "bool") (by rfl) T.n_bool (by decide +kernel) rfl) pa_nil)))) (pw_or1 (pt_val (pe_callB call_isi (by rfl) T.n_isinstance (by decide +kernel) (pa_cons (pv 0) (pa_cons (pe_bltn (v := .ty "bool") (by rfl) T.n_bool (by decide +kernel) rfl) pa_nil))))))) (pss_one (ps_ret (pe_and (pe_callB call_isi (by rfl) T.n_isinstance (by decide +kernel) (pa_cons (pv 1) (pa_cons (pe_bltn (v := .ty "bool") (by rfl) T.n_bool (by decide +kernel) rfl) pa_nil))) (pe_and (pe_callB call_isi (by rfl) T.n_isinstance (by decide +kernel) (pa_cons (pv 0) (pa_cons (pe_bltn (v := .ty "bool") (by rfl) T.n_bool (by decide +kernel) rfl) pa_nil))) (pe_one (pe_cmpR op_eq (pv 0) (pv 1) (nomark _))))))) pss_nil)
      (pss_cons (ps_if (pt_val (pe_callB call_isi (by rfl) T.n_isinstance (by decide +kernel) (pa_cons (pv 1) (pa_cons (pe_bltn (v := .ty "int") (by rfl) T.n_int (by decide +kernel) rfl) pa_nil)))) (pss_one (ps_ret (pe_and (pe_callB call_isi (by rfl) T.n_isinstance (by decide +kernel) (pa_cons (pv 0) (pa_cons (pe_bltn (v := .ty "int") (by rfl) T.n_int (by decide +kernel) rfl) pa_nil))) (pe_one (pe_cmpR op_eq (pv 0) (pv 1) (nomark _)))))) pss_nil)
      (pss_cons (ps_if (pt_val (pe_callB call_isi (by rfl) T.n_isinstance (by decide +kernel) (pa_cons (pv 1) (pa_cons (pe_bltn (v := .ty "str") (by rfl) T.n_str (by decide +kernel) rfl) pa_nil)))) (pss_one (ps_ret (pe_and (pe_callB call_isi (by rfl) T.n_isinstance (by decide +kernel) (pa_cons (pv 0) (pa_cons (pe_bltn (v := .ty "str") (by rfl) T.n_str (by decide +kernel) rfl) pa_nil))) (pe_one (pe_cmpR op_eq (pv 0) (pv 1) (nomark _)))))) pss_nil)
      (pss_cons (ps_if (pt_val (pe_callB call_isi (by rfl) T.n_isinstance (by decide +kernel) (pa_cons (pv 1) (pa_cons (pe_bltn (v := .ty "list") (by rfl) T.n_list (by decide +kernel) rfl) pa_nil)))) (pss_one (ps_set (i := 2) sc__law_same.nd rfl (by first | exact Or.inl rfl | exact Or.inr rfl) (pe_callB call_isi (by rfl) T.n_isinstance (by decide +kernel) (pa_cons (pv 0) (pa_cons (pe_bltn (v := .ty "list") (by rfl) T.n_list (by decide +kernel) rfl) pa_nil))))) (pss_one (ps_set (i := 2) sc__law_same.nd rfl (by first | exact Or.inl rfl | exact Or.inr rfl) (pe_and (pe_callB call_isi (by rfl) T.n_isinstance (by decide +kernel) (pa_cons (pv 1) (pa_cons (pe_bltn (v := .ty "tuple") (by rfl) T.n_tuple (by decide +kernel) rfl) pa_nil))) (pe_one (pe_callB call_isi (by rfl) T.n_isinstance (by decide +kernel) (pa_cons (pv 0) (pa_cons (pe_bltn (v := .ty "tuple") (by rfl) T.n_tuple (by decide +kernel) rfl) pa_nil))))))))
      (pss_cons (ps_if (PW.pt (pw_or (pt_not (pt_val (pv 2))) (pw_or1 (pt_cmpR op_ne (pe_callB Vb.call_len (by rfl) T.n_len (by decide +kernel) (pa_cons (pv 0) pa_nil)) (pe_callB Vb.call_len (by rfl) T.n_len (by decide +kernel) (pa_cons (pv 1) pa_nil)) (nomark _))))) (pss_one (ps_ret pe_bl)) pss_nil)
      (pss_cons (ps_for (L2.passes_of rfl) rfl (pi_range1 rfl T.n_range (pa_cons (pe_callB Vb.call_len (by rfl) T.n_len (by decide +kernel) (pa_cons (pv 1) pa_nil)) pa_nil)) (pg_name (i := 3) sc__law_same.nd rfl (by first | exact Or.inl rfl | exact Or.inr rfl))
        (pss_one (ps_if (pt_not (pt_val (pe_callS G__law_same (hr.mono (by first | decide | omega)) (by rfl) T.d__law_same.g T.d__law_same.F.kp T.d__law_same.b (fun σ => L2N.passAt (L2N.takes_of rfl rfl rfl rfl) σ) (pa_cons (pe_ix ix_seq (pv 0) (pv 3) (fun _ _ => rfl)) (pa_cons (pe_ix ix_seq (pv 1) (pv 3) (fun _ _ => rfl)) pa_nil))))) (pss_one (ps_ret pe_bl)) pss_nil)))
      (pss_one (ps_ret pe_bl))))))))), ?_⟩
      (change (_ : L2.TS) _ ([some (v), some (u), none, none] : L2.St) _); try dsimp only [L2.cxOf, L2H.cxH]
      walk_at "rd"
      by_cases hn : d = .none
      · subst hn
        refine Vb.r_ite (fun _ => ?_) (fun c => absurd (Vb.is_non h2) c)
        walk_at "rd"
        refine Vb.r_ite (fun _ => ?_) (fun c => absurd (Vb.is_non h2) c)
        walk_at "rd"
        rw [decide_eq_true (Vb.is_non h1)]
        exact q
      refine Vb.r_ite (fun c => absurd c (Vb.not_non h2 hn)) (fun _ => ?_)
      walk_at "rd"
      refine Vb.r_ite (fun c => absurd c (Vb.not_non h1 hn)) (fun _ => ?_)
      cases d with
      | none => exact absurd rfl hn
      | bool b =>
        walk_at "rd"
        cases h1; cases h2
        refine ⟨rfl, ?_⟩
        rw [decide_eq_true rfl]
        exact q
      | int i =>
        walk_at "rd"
        cases h1; cases h2
        walk_at "rd"
        rw [decide_eq_true rfl]
        exact q
      | str x =>
        walk_at "rd"
        cases h1; cases h2
        refine ⟨rfl, ?_⟩
        rw [decide_eq_true rfl]
        exact q
      | list ds =>
        walk_at "rd"
        cases h1 with
        | @lst a xs _ s1 a1 =>
        cases h2 with
        | @lst b ys _ s2 a2 =>
        have l1 := Vb.dpa_len a1
        have l2 := Vb.dpa_len a2
        have hl := h3.1
        walk_at "rd"
        refine Vb.r_iteN (fun c => absurd (by omega) c) (fun _ => ?_)
        walk_at "rd"
        refine Vb.lp_range (fun i σ H' => i ≤ ds.length ∧ H' = H ∧ ∃ y, σ = [some (.ref a), some (.ref b), some (.bl true), y]) ⟨Nat.zero_le _, rfl, none, rfl⟩ ?_ ?_
        · rintro i σ H' hi ⟨_, rfl, y, rfl⟩
          have hi' : i < ds.length := by omega
          obtain ⟨x1, y1, d1, e1, e2, g1, g2, g3⟩ := same_items a1 a2 h3.2 hi'
          walk_at "rd"
          refine Vb.r_ixSL s1 (Vb.at_lit i (by omega) e1) ?_
          walk_at "rd"
          refine Vb.r_ixSL s2 (Vb.at_lit i (by omega) e2) ?_
          walk_at "rd"
          cases n with
          | zero => exact g3.elim
          | succ n =>
            refine use_same d1 g1 g2 g3 ?_
            walk_at "rd"
            exact ⟨by omega, rfl, _, rfl⟩
        · rintro σ H' ⟨_, rfl, y, rfl⟩
          walk_at "rd"
          exact q
      | tuple ds =>
        walk_at "rd"
        cases h1 with
        | @tup a xs _ s1 a1 =>
        cases h2 with
        | @tup b ys _ s2 a2 =>
        have l1 := Vb.dpa_len a1
        have l2 := Vb.dpa_len a2
        have hl := h3.1
        walk_at "rd"
        refine Vb.r_iteN (fun c => absurd (by omega) c) (fun _ => ?_)
        walk_at "rd"
        refine Vb.lp_range (fun i σ H' => i ≤ ds.length ∧ H' = H ∧ ∃ y, σ = [some (.ref a), some (.ref b), some (.bl true), y]) ⟨Nat.zero_le _, rfl, none, rfl⟩ ?_ ?_
        · rintro i σ H' hi ⟨_, rfl, y, rfl⟩
          have hi' : i < ds.length := by omega
          obtain ⟨x1, y1, d1, e1, e2, g1, g2, g3⟩ := same_items a1 a2 h3.2 hi'
          walk_at "rd"
          refine Vb.r_ixST s1 (Vb.at_lit i (by omega) e1) ?_
          walk_at "rd"
          refine Vb.r_ixST s2 (Vb.at_lit i (by omega) e2) ?_
          walk_at "rd"
          cases n with
          | zero => exact g3.elim
          | succ n =>
            refine use_same d1 g1 g2 g3 ?_
            walk_at "rd"
            exact ⟨by omega, rfl, _, rfl⟩
        · rintro σ H' ⟨_, rfl, y, rfl⟩
          walk_at "rd"
          exact q
      | dict kvs => cases h1
theorem okh_same (T : Txt K mg) : ∀ n, L2H.FnH P w K mg base CX0 (n + 1) T.f__law_same T.fd__law_same ["actual", "expected"] (sp_same K n)
  | 0 => ⟨fun _ _ _ _ h => h.elim, fun _ _ _ _ _ _ _ _ _ _ _ _ _ _ _ _ h => h.elim⟩
  | n + 1 => by
    have GH__law_same := okh_same T n
    refine Vb.okH T.d__law_same.F sc__law_same (fun vs H Q E h => ?_) (fun cdv A outer s H vs Q E p hot hr h => ?_)
    · obtain ⟨v, u, d, rfl, _⟩ := h
      rfl
    · obtain ⟨v, u, d, rfl, h1, h2, h3, q⟩ := h
      have hotc : L2H.HotC (L2H.cxH CX0 P w K mg base N__law_same "_law_same" (defScope s__law_same) T.f__law_same cdv A outer s H E p) := ⟨p, hot, List.mem_singleton.mpr rfl⟩
      refine ⟨_, (pss_cons (ps_if (PW.pt (pw_or (pt_cmpR Vb.op_isN (pv 1) pe_non (nomark _)) (pw_or1 (pt_cmpR Vb.op_isN (pv 0) pe_non (nomark _))))) (pss_one (ps_ret (pe_and (pe_cmpR Vb.op_isN (pv 1) pe_non (nomark _)) (pe_one (pe_cmpR Vb.op_isN (pv 0) pe_non (nomark _)))))) pss_nil)
      (pss_cons (ps_if (PW.pt (pw_or (pt_val (pe_callB call_isi (by rfl) T.n_isinstance (by decide +kernel) (pa_cons (pv 1) (pa_cons (pe_bltn (v := .ty "bool") (by rfl) T.n_bool (by decide +kernel) rfl) pa_nil)))) (pw_or1 (pt_val (pe_callB call_isi (by rfl) T.n_isinstance (by decide +kernel) (pa_cons (pv 0) (pa_cons (pe_bltn (v := .ty "bool") (by rfl) T.n_bool (by decide +kernel) rfl) pa_nil))))))) (pss_one (ps_ret (pe_and (pe_callB call_isi (by rfl) T.n_isinstance (by decide +kernel) (pa_cons (pv 1) (pa_cons (pe_bltn (v := .ty "bool") (by rfl) T.n_bool (by decide +kernel) rfl) pa_nil))) (pe_and (pe_callB call_isi (by rfl) T.n_isinstance (by decide +kernel) (pa_cons (pv 0) (pa_cons (pe_bltn (v := .ty "bool") (by rfl) T.n_bool (by decide +kernel) rfl) pa_nil))) (pe_one (pe_cmpR op_eq (pv 0) (pv 1) (nomark _))))))) pss_nil)
      (pss_cons (ps_if (pt_val (pe_callB call_isi (by rfl) T.n_isinstance (by decide +kernel) (pa_cons (pv 1) (pa_cons (pe_bltn (v := .ty "int") (by rfl) T.n_int (by decide +kernel) rfl) pa_nil)))) (pss_one (ps_ret (pe_and (pe_callB call_isi (by rfl) T.n_isinstance (by decide +kernel) (pa_cons (pv 0) (pa_cons (pe_bltn (v := .ty "int") (by rfl) T.n_int (by decide +kernel) rfl) pa_nil))) (pe_one (pe_cmpR op_eq (pv 0) (pv 1) (nomark _)))))) pss_nil)
      (pss_cons (ps_if (pt_val (pe_callB call_isi (by rfl) T.n_isinstance (by decide +kernel) (pa_cons (pv 1) (pa_cons (pe_bltn (v := .ty "str") (by rfl) T.n_str (by decide +kernel) rfl) pa_nil)))) (pss_one (ps_ret (pe_and (pe_callB call_isi (by rfl) T.n_isinstance (by decide +kernel) (pa_cons (pv 0) (pa_cons (pe_bltn (v := .ty "str") (by rfl) T.n_str (by decide +kernel) rfl) pa_nil))) (pe_one (pe_cmpR op_eq (pv 0) (pv 1) (nomark _)))))) pss_nil)
      (pss_cons (ps_if (pt_val (pe_callB call_isi (by rfl) T.n_isinstance (by decide +kernel) (pa_cons (pv 1) (pa_cons (pe_bltn (v := .ty "list") (by rfl) T.n_list (by decide +kernel) rfl) pa_nil)))) (pss_one (ps_set (i := 2) sc__law_same.nd rfl (by first | exact Or.inl rfl | exact Or.inr rfl) (pe_callB call_isi (by rfl) T.n_isinstance (by decide +kernel) (pa_cons (pv 0) (pa_cons (pe_bltn (v := .ty "list") (by rfl) T.n_list (by decide +kernel) rfl) pa_nil))))) (pss_one (ps_set (i := 2) sc__law_same.nd rfl (by first | exact Or.inl rfl | exact Or.inr rfl) (pe_and (pe_callB call_isi (by rfl) T.n_isinstance (by decide +kernel) (pa_cons (pv 1) (pa_cons (pe_bltn (v := .ty "tuple") (by rfl) T.n_tuple (by decide +kernel) rfl) pa_nil))) (pe_one (pe_callB call_isi (by rfl) T.n_isinstance (by decide +kernel) (pa_cons (pv 0) (pa_cons (pe_bltn (v := .ty "tuple") (by rfl) T.n_tuple (by decide +kernel) rfl) pa_nil))))))))
      (pss_cons (ps_if (PW.pt (pw_or (pt_not (pt_val (pv 2))) (pw_or1 (pt_cmpR op_ne (pe_callB Vb.call_len (by rfl) T.n_len (by decide +kernel) (pa_cons (pv 0) pa_nil)) (pe_callB Vb.call_len (by rfl) T.n_len (by decide +kernel) (pa_cons (pv 1) pa_nil)) (nomark _))))) (pss_one (ps_ret pe_bl)) pss_nil)
      (pss_cons (L2H.ps_forH (L2.passes_of rfl) hotc (L2H.pi_range1H rfl T.n_range (pa_cons (pe_callB Vb.call_len (by rfl) T.n_len (by decide +kernel) (pa_cons (pv 1) pa_nil)) pa_nil)) (pg_name (i := 3) sc__law_same.nd rfl (by first | exact Or.inl rfl | exact Or.inr rfl))
        (pss_one (ps_if (pt_not (pt_val (L2H.pe_callH GH__law_same (hr.mono (by first | decide | omega)) hotc rfl T.d__law_same.g T.d__law_same.F.kp T.d__law_same.b (fun σ => Vb.passH) (pa_cons (pe_ix ix_seq (pv 0) (pv 3) (fun _ _ => rfl)) (pa_cons (pe_ix ix_seq (pv 1) (pv 3) (fun _ _ => rfl)) pa_nil))))) (pss_one (ps_ret pe_bl)) pss_nil)))
      (pss_one (ps_ret pe_bl))))))))), ?_⟩
      (change (_ : L2.TS) _ ([some (v), some (u), none, none] : L2.St) _); try dsimp only [L2.cxOf, L2H.cxH]
      walk_at "rd"
      by_cases hn : d = .none
      · subst hn
        refine Vb.r_ite (fun _ => ?_) (fun c => absurd (Vb.is_non h2) c)
        walk_at "rd"
        refine Vb.r_ite (fun _ => ?_) (fun c => absurd (Vb.is_non h2) c)
        walk_at "rd"
        rw [decide_eq_true (Vb.is_non h1)]
        exact q
      refine Vb.r_ite (fun c => absurd c (Vb.not_non h2 hn)) (fun _ => ?_)
      walk_at "rd"
      refine Vb.r_ite (fun c => absurd c (Vb.not_non h1 hn)) (fun _ => ?_)
      cases d with
      | none => exact absurd rfl hn
      | bool b =>
        walk_at "rd"
        cases h1; cases h2
        refine ⟨rfl, ?_⟩
        rw [decide_eq_true rfl]
        exact q
      | int i =>
        walk_at "rd"
        cases h1; cases h2
        walk_at "rd"
        rw [decide_eq_true rfl]
        exact q
      | str x =>
        walk_at "rd"
        cases h1; cases h2
        refine ⟨rfl, ?_⟩
        rw [decide_eq_true rfl]
        exact q
      | list ds =>
        walk_at "rd"
        cases h1 with
        | @lst a xs _ s1 a1 =>
        cases h2 with
        | @lst b ys _ s2 a2 =>
        have l1 := Vb.dpa_len a1
        have l2 := Vb.dpa_len a2
        have hl := h3.1
        walk_at "rd"
        refine Vb.r_iteN (fun c => absurd (by omega) c) (fun _ => ?_)
        walk_at "rd"
        refine Vb.lp_range (fun i σ H' => i ≤ ds.length ∧ H' = H ∧ ∃ y, σ = [some (.ref a), some (.ref b), some (.bl true), y]) ⟨Nat.zero_le _, rfl, none, rfl⟩ ?_ ?_
        · rintro i σ H' hi ⟨_, rfl, y, rfl⟩
          have hi' : i < ds.length := by omega
          obtain ⟨x1, y1, d1, e1, e2, g1, g2, g3⟩ := same_items a1 a2 h3.2 hi'
          walk_at "rd"
          refine Vb.r_ixSL s1 (Vb.at_lit i (by omega) e1) ?_
          walk_at "rd"
          refine Vb.r_ixSL s2 (Vb.at_lit i (by omega) e2) ?_
          walk_at "rd"
          cases n with
          | zero => exact g3.elim
          | succ n =>
            refine use_same d1 g1 g2 g3 ?_
            walk_at "rd"
            exact ⟨by omega, rfl, _, rfl⟩
        · rintro σ H' ⟨_, rfl, y, rfl⟩
          walk_at "rd"
          exact q
      | tuple ds =>
        walk_at "rd"
        cases h1 with
        | @tup a xs _ s1 a1 =>
        cases h2 with
        | @tup b ys _ s2 a2 =>
        have l1 := Vb.dpa_len a1
        have l2 := Vb.dpa_len a2
        have hl := h3.1
        walk_at "rd"
        refine Vb.r_iteN (fun c => absurd (by omega) c) (fun _ => ?_)
        walk_at "rd"
        refine Vb.lp_range (fun i σ H' => i ≤ ds.length ∧ H' = H ∧ ∃ y, σ = [some (.ref a), some (.ref b), some (.bl true), y]) ⟨Nat.zero_le _, rfl, none, rfl⟩ ?_ ?_
        · rintro i σ H' hi ⟨_, rfl, y, rfl⟩
          have hi' : i < ds.length := by omega
          obtain ⟨x1, y1, d1, e1, e2, g1, g2, g3⟩ := same_items a1 a2 h3.2 hi'
          walk_at "rd"
          refine Vb.r_ixST s1 (Vb.at_lit i (by omega) e1) ?_
          walk_at "rd"
          refine Vb.r_ixST s2 (Vb.at_lit i (by omega) e2) ?_
          walk_at "rd"
          cases n with
          | zero => exact g3.elim
          | succ n =>
            refine use_same d1 g1 g2 g3 ?_
            walk_at "rd"
            exact ⟨by omega, rfl, _, rfl⟩
        · rintro σ H' ⟨_, rfl, y, rfl⟩
          walk_at "rd"
          exact q
      | dict kvs => cases h1
end
end K
namespace K
open PySem PySem.Spec PyProof.Rows L2

abbrev N__law_copy : List Str := ["value", "item"]
theorem sc__law_copy : FnScope N__law_copy ["value"] (defScope s__law_copy) := ⟨rfl, rfl, rfl, by decide +kernel, rfl, by decide +kernel, by decide +kernel⟩
section
variable {P : Program} {w : World} {K : PySem.W.Frag} {mg : Str → Option Value} {base : Heap}
/-- a copy: the same data; what it is made of is new, or was there but for Z -/
def sp_copy (K : PySem.W.Frag) : Nat → Sp
  | 0 => fun _ _ _ _ => False
  | n + 1 => fun vs H Q _ => ∃ (v : V) (d : PyData) (Z : List Addr), vs = [v] ∧ Vb.Trk Z H ∧ Dp K (Vb.offs Z H) v d ∧ Vb.DOk (n + 1) d ∧ ∀ (v' : V) (H' : Hp), Same H H' → Dp K (Vb.offs Z H') v' d → Q v' H'
theorem ok_copy (T : Txt K mg) : ∀ n, FnOk P w K mg base (L2N.CX P w) (n + 1) T.f__law_copy T.fd__law_copy ["value"] (sp_copy K n)
  | 0 => ⟨fun _ _ _ _ h => h.elim, fun _ _ _ _ _ _ _ _ _ _ _ _ _ h => h.elim⟩
  | n + 1 => by
    have G__law_copy := ok_copy T n
    refine Vb.okN T.d__law_copy.F sc__law_copy (fun vs H Q E h => ?_) (fun cdv A outer s H vs Q E hr h => ?_)
    · obtain ⟨v, d, Z, rfl, _⟩ := h
      rfl
    · obtain ⟨v, d, Z, rfl, t, h1, h3, q⟩ := h
      have h2 := Vb.dp_off h1
      refine ⟨_, (pss_cons (ps_if (pt_val (pe_callB call_isi (by rfl) T.n_isinstance (by decide +kernel) (pa_cons (pv 0) (pa_cons (pe_bltn (v := .ty "list") (by rfl) T.n_list (by decide +kernel) rfl) pa_nil)))) (pss_one (ps_ret (pe_lc (own := [("item", 1)]) (g := gName 1) (tt := tYes) rfl sc__law_copy.nd (pi_list (pv 0)) (blkOk_by (own := [("item", 1)]) (N := N__law_copy) (sc := defScope s__law_copy) (by decide +kernel)) (fun _ _ _ _ _ => (pg_name (i := 1) sc__law_copy.nd rfl (by first | exact Or.inl rfl | exact Or.inr rfl))) (fun _ _ _ _ _ => pts_nil) (fun _ _ _ _ _ => (pe_call G__law_copy (hr.mono (by first | decide | omega)) (by rfl) T.d__law_copy.g T.d__law_copy.F.kp T.d__law_copy.b .nil Vb.pass5 (pa_cons (pv 1) pa_nil)))))) pss_nil)
      (pss_cons (ps_if (pt_val (pe_callB call_isi (by rfl) T.n_isinstance (by decide +kernel) (pa_cons (pv 0) (pa_cons (pe_bltn (v := .ty "tuple") (by rfl) T.n_tuple (by decide +kernel) rfl) pa_nil)))) (pss_one (ps_ret (pe_callTy Vb.call_tuple (by rfl) T.n_tuple (by decide +kernel) (pa_cons (pe_lc (own := [("item", 1)]) (g := gName 1) (tt := tYes) rfl sc__law_copy.nd (pi_tup (pv 0)) (blkOk_by (own := [("item", 1)]) (N := N__law_copy) (sc := defScope s__law_copy) (by decide +kernel)) (fun _ _ _ _ _ => (pg_name (i := 1) sc__law_copy.nd rfl (by first | exact Or.inl rfl | exact Or.inr rfl))) (fun _ _ _ _ _ => pts_nil) (fun _ _ _ _ _ => (pe_call G__law_copy (hr.mono (by first | decide | omega)) (by rfl) T.d__law_copy.g T.d__law_copy.F.kp T.d__law_copy.b .nil Vb.pass5 (pa_cons (pv 1) pa_nil)))) pa_nil)))) pss_nil)
      (pss_one (ps_ret (pv 0))))), ?_⟩
      (change (_ : L2.TS) _ ([some (v), none] : L2.St) _); try dsimp only [L2.cxOf, L2H.cxH]
      cases d with
      | none =>
        walk_at "rd"
        exact q _ _ (Same.refl _) h1
      | bool b =>
        walk_at "rd"
        exact q _ _ (Same.refl _) h1
      | int i =>
        walk_at "rd"
        exact q _ _ (Same.refl _) h1
      | str x =>
        walk_at "rd"
        exact q _ _ (Same.refl _) h1
      | dict kvs => cases h1
      | list ds =>
        walk_at "rd"
        cases h1 with
        | @lst a xs _ s1 a1 =>
        have s2 : SqL K H a xs := Vb.offs_sub.seq s1
        have l1 := Vb.dpa_len a1
        have hl := h3.1
        walk_at "rd"
        intro D hD
        have hDZ := t.new hD
        refine Vb.lcw_list (xs := xs) (fun i H' => i ≤ ds.length ∧ Same H H' ∧ ∃ acc, H' D = some (.lst acc) ∧ acc.length = i ∧ DpAll K (Vb.offs (D :: Z) H') acc (ds.take i)) ⟨Nat.zero_le _, Vb.same_new hD, [], upd_same, rfl, .nil⟩ (fun x => rfl) (fun i H' _ p => p.2.1.seq s2) ?_ ?_
        · rintro i x H' hi ⟨_, e, acc, ha, la, da⟩
          obtain ⟨d, hd, hx⟩ := Vb.dpa_get a1 hi
          have hi' : i < ds.length := (List.getElem?_eq_some_iff.mp hd).1
          walk_at "rd"
          have hok := h3.2 d (List.mem_of_getElem? hd)
          cases n with
          | zero => exact hok.elim
          | succ n =>
            refine ⟨x, d, D :: Z, rfl, fun z m => ?_, Vb.dp_same (Vb.offs_same e) _ _ (Vb.dp_same (Vb.offs_new hD) _ _ hx), hok, fun v' H2 e2 hv => ?_⟩
            · rcases List.mem_cons.mp m with rfl | m
              · exact ⟨_, ha⟩
              · exact t.same e z m
            · refine ⟨acc, e2 _ _ ha, Vb.size_lt (by omega), by omega, Vb.same_mut (e.trans e2) hD, acc ++ [v'], upd_same, by rw [List.length_append, la]; rfl, ?_⟩
              have e3 : ds.take (i + 1) = ds.take i ++ [d] := by rw [List.take_add_one, hd]; rfl
              rw [e3]
              exact Vb.dpa_same Vb.offs_upd _ _ (Vb.dpa_app (Vb.dpa_same (Vb.offs_same e2) _ _ da) (.cons hv .nil))
        · rintro H' ⟨_, e, acc, ha, la, da⟩
          rw [List.take_of_length_le (by omega)] at da
          exact q _ _ e (.lst (Vb.sq_of (Vb.offs_of hDZ ha)) (Vb.dpa_same Vb.offs_more _ _ da))
      | tuple ds =>
        walk_at "rd"
        cases h1 with
        | @tup a xs _ s1 a1 =>
        have s2 : SqT K H a xs := Vb.same_sqt Vb.offs_sub s1
        have l1 := Vb.dpa_len a1
        have hl := h3.1
        walk_at "rd"
        intro D hD
        have hDZ := t.new hD
        refine Vb.lcw_tup (xs := xs) (fun i H' => i ≤ ds.length ∧ Same H H' ∧ ∃ acc, H' D = some (.lst acc) ∧ acc.length = i ∧ DpAll K (Vb.offs (D :: Z) H') acc (ds.take i)) ⟨Nat.zero_le _, Vb.same_new hD, [], upd_same, rfl, .nil⟩ (fun x => rfl) (fun i H' _ p => Vb.same_sqt p.2.1 s2) ?_ ?_
        · rintro i x H' hi ⟨_, e, acc, ha, la, da⟩
          obtain ⟨d, hd, hx⟩ := Vb.dpa_get a1 hi
          have hi' : i < ds.length := (List.getElem?_eq_some_iff.mp hd).1
          walk_at "rd"
          have hok := h3.2 d (List.mem_of_getElem? hd)
          cases n with
          | zero => exact hok.elim
          | succ n =>
            refine ⟨x, d, D :: Z, rfl, fun z m => ?_, Vb.dp_same (Vb.offs_same e) _ _ (Vb.dp_same (Vb.offs_new hD) _ _ hx), hok, fun v' H2 e2 hv => ?_⟩
            · rcases List.mem_cons.mp m with rfl | m
              · exact ⟨_, ha⟩
              · exact t.same e z m
            · refine ⟨acc, e2 _ _ ha, Vb.size_lt (by omega), by omega, Vb.same_mut (e.trans e2) hD, acc ++ [v'], upd_same, by rw [List.length_append, la]; rfl, ?_⟩
              have e3 : ds.take (i + 1) = ds.take i ++ [d] := by rw [List.take_add_one, hd]; rfl
              rw [e3]
              exact Vb.dpa_same Vb.offs_upd _ _ (Vb.dpa_app (Vb.dpa_same (Vb.offs_same e2) _ _ da) (.cons hv .nil))
        · rintro H' ⟨_, e, acc, ha, la, da⟩
          rw [List.take_of_length_le (by omega)] at da
          walk_at "rd"
          refine Vb.r_tupL (Vb.sq_of ha) fun p hp => ?_
          refine q _ _ (e.trans (Vb.same_new hp)) (.tup (Vb.st_of (Vb.offs_of ((t.same e).new hp) upd_same)) (Vb.dpa_same (Vb.offs_same (Vb.same_new hp)) _ _ (Vb.dpa_same Vb.offs_more _ _ da)))
end
end K
namespace K
open PySem PySem.Spec PyProof.Rows L2
abbrev N__law_store : List Str := ["script", "seed", "cell"]
theorem sc__law_store : FnScope N__law_store ["script"] (defScope s__law_store) := ⟨rfl, rfl, rfl, by decide +kernel, rfl, by decide +kernel, by decide +kernel⟩
section
variable {P : Program} {w : World} {K : PySem.W.Frag} {mg : Str → Option Value} {base : Heap}
def sp_store (K : PySem.W.Frag) : Sp := fun vs H Q _ => ∃ (a : Addr) (ns : List Int), vs = [.ref a] ∧ SqL K H a (ns.map V.int) ∧ ns.length ≤ 1000000 ∧ ∀ (st : Addr) (H' : Hp), H st = none → Same H H' → Vb.StoreAt H' st → Q (.ref st) H'
theorem ok_store (T : Txt K mg) : FnOk P w K mg base (L2N.CX P w) 1 T.f__law_store T.fd__law_store ["script"] (sp_store K) := by
  refine Vb.okN T.d__law_store.F sc__law_store (fun vs H Q E h => ?_) (fun cdv A outer s H vs Q E hr h => ?_)
  · obtain ⟨a, b, rfl, _⟩ := h
    rfl
  · obtain ⟨a, ns, rfl, hs, hl, q⟩ := h
    refine ⟨_, (pss_cons (ps_set (i := 1) sc__law_store.nd rfl (by first | exact Or.inl rfl | exact Or.inr rfl) pe_int)
      (pss_cons (ps_for (L2.passes_of rfl) rfl (pi_list (pv 0)) (pg_name (i := 2) sc__law_store.nd rfl (by first | exact Or.inl rfl | exact Or.inr rfl))
        (pss_one (ps_set (i := 1) sc__law_store.nd rfl (by first | exact Or.inl rfl | exact Or.inr rfl) (pe_op op_mod (pe_callTy Vb.call_int (by rfl) T.n_int (by decide +kernel) (pa_cons (pe_op op_add (pe_op op_add (pe_op op_mul (pv 1) pe_int) (pe_op op_mod (pe_callTy Vb.call_int (by rfl) T.n_int (by decide +kernel) (pa_cons (pv 2) pa_nil)) pe_int)) pe_int) pa_nil)) pe_int))))
      (pss_one (ps_ret (pe_lst (pa_cons (pe_callTy Vb.call_list (by rfl) T.n_list (by decide +kernel) (pa_cons (pv 0) pa_nil)) (pa_cons pe_int (pa_cons pe_int (pa_cons pe_int (pa_cons (pv 1) pa_nil)))))))))), ?_⟩
    (change (_ : L2.TS) _ ([some (.ref a), none, none] : L2.St) _); try dsimp only [L2.cxOf, L2H.cxH]
    walk_at "rd"
    refine Vb.lp_list (xs := ns.map V.int) (fun i σ H' => H' = H ∧ ∃ (z : Int) (y : Option V), σ = [some (.ref a), some (.int z), y]) ⟨rfl, 1, none, rfl⟩ (fun i σ H' _ p => by rw [p.1]; exact hs) ?_ ?_
    · rintro i x σ H' hi ⟨rfl, z, y, rfl⟩
      obtain ⟨c, _, rfl⟩ := Vb.getV' hi
      walk_at "rd"
      exact ⟨rfl, _, _, rfl⟩
    · rintro σ H' ⟨rfl, z, y, rfl⟩
      walk_at "rd"
      refine Vb.r_list hs fun l hn => ?_
      walk_at "rd"
      refine ⟨Vb.size_ok (by show 5 ≤ 16777216; decide), fun st hst => ?_⟩
      have hlst : l ≠ st := fun e => by rw [e, upd_same] at hst; cases hst
      have hst' : H' st = none := by rw [← hst, upd_ne hlst.symm]
      refine q st _ hst' (Same.trans (Vb.same_new hn) (Vb.same_new hst)) ⟨l, ns, 0, 0, 0, z, hlst, upd_same, by walk_at "hp", by omega, by omega⟩
end
end K
namespace K
open PySem PySem.Spec PyProof.Rows L2
abbrev N__law_edge : List Str := ["store", "low", "high", "many", "way"]
theorem sc__law_edge : FnScope N__law_edge ["store", "low", "high"] (defScope s__law_edge) := ⟨rfl, rfl, rfl, by decide +kernel, rfl, by decide +kernel, by decide +kernel⟩
section
variable {P : Program} {w : World} {K : PySem.W.Frag} {mg : Str → Option Value} {base : Heap}
def sp_edge (K : PySem.W.Frag) : Sp := fun vs H Q _ => ∃ (st : Addr) (lo hi : Int), vs = [.ref st, .int lo, .int hi] ∧ Vb.StoreAt H st ∧ hi - lo < 1073741823 ∧ ∀ (v : Int) (H' : Hp), lo ≤ v → (lo ≤ hi → v ≤ hi) → (hi ≤ lo → v = lo) → Vb.Fr st H H' → Vb.StoreAt H' st → Q (.int v) H'
theorem use_edge {st : Addr} {lo hi : Int} {H : Hp} {Q : VK} {E : XK} (h1 : Vb.StoreAt H st) (h2 : hi - lo < 1073741823) (h : ∀ (v : Int) (H' : Hp), lo ≤ v → (lo ≤ hi → v ≤ hi) → (hi ≤ lo → v = lo) → Vb.Fr st H H' → Vb.StoreAt H' st → Q (.int v) H') : sp_edge K [.ref st, .int lo, .int hi] H Q E := ⟨st, lo, hi, rfl, h1, h2, h⟩
theorem ok_edge (T : Txt K mg) : FnOk P w K mg base (L2N.CX P w) 3 T.f__law_edge T.fd__law_edge ["store", "low", "high"] (sp_edge K) := by
  have G__law_take := ok_take (P := P) (w := w) (base := base) T
  refine Vb.okN T.d__law_edge.F sc__law_edge (fun vs H Q E h => ?_) (fun cdv A outer s H vs Q E hr h => ?_)
  · obtain ⟨a, b, c, rfl, _⟩ := h
    rfl
  · obtain ⟨st, lo, hi, rfl, hS, hb, q⟩ := h
    refine ⟨_, (pss_cons (ps_set (i := 3) sc__law_edge.nd rfl (by first | exact Or.inl rfl | exact Or.inr rfl) (pe_op op_add (pe_callB (Vb.call_max2 rfl) (by rfl) T.n_max (by decide +kernel) (pa_cons pe_int (pa_cons (pe_op op_sub (pv 2) (pv 1)) pa_nil))) pe_int))
      (pss_cons (ps_set (i := 4) sc__law_edge.nd rfl (by first | exact Or.inl rfl | exact Or.inr rfl) (pe_callS G__law_take (hr.mono (by first | decide | omega)) (by rfl) T.d__law_take.g T.d__law_take.F.kp T.d__law_take.b (fun σ => L2N.passAt (L2N.takes_of rfl rfl rfl rfl) σ) (pa_cons (pv 0) (pa_cons pe_int pa_nil))))
      (pss_cons (ps_if (pt_cmpR op_eq (pv 4) pe_int (nomark _)) (pss_one (ps_ret (pv 1))) pss_nil)
      (pss_cons (ps_if (pt_cmpR op_eq (pv 4) pe_int (nomark _)) (pss_one (ps_ret (pe_op op_sub (pe_op op_add (pv 1) (pv 3)) pe_int))) pss_nil)
      (pss_cons (ps_if (pt_cmpR op_eq (pv 4) pe_int (nomark _)) (pss_one (ps_ret (pe_op op_add (pv 1) (pe_callB (Vb.call_min2 rfl) (by rfl) T.n_min (by decide +kernel) (pa_cons (pe_op op_sub (pv 3) pe_int) (pa_cons pe_int pa_nil)))))) pss_nil)
      (pss_one (ps_ret (pe_op op_add (pv 1) (pe_callS G__law_take (hr.mono (by first | decide | omega)) (by rfl) T.d__law_take.g T.d__law_take.F.kp T.d__law_take.b (fun σ => L2N.passAt (L2N.takes_of rfl rfl rfl rfl) σ) (pa_cons (pv 0) (pa_cons (pv 3) pa_nil))))))))))), ?_⟩
    (change (_ : L2.TS) _ ([some (.ref st), some (.int lo), some (.int hi), none, none] : L2.St) _); try dsimp only [L2.cxOf, L2H.cxH]
    walk_at "rd"
    have hm : 0 < (if hi - lo > 0 then hi - lo else 0) + 1 ∧ (if hi - lo > 0 then hi - lo else 0) + 1 < 1073741824 ∧ (lo ≤ hi → (if hi - lo > 0 then hi - lo else 0) + 1 = hi - lo + 1) ∧ (hi ≤ lo → (if hi - lo > 0 then hi - lo else 0) + 1 = 1) := by
      split <;> omega
    generalize (if hi - lo > 0 then hi - lo else 0) + 1 = m at hm ⊢
    obtain ⟨m1, m2, m3, m4⟩ := hm
    refine use_take hS (by decide) fun v1 H1 a1 a2 _ f1 S1 => ?_
    walk_at "rd"
    refine Vb.r_ite (fun c1 => ?_) (fun c1 => ?_)
    · walk_at "rd"
      exact q _ _ (by omega) (by omega) (by omega) f1 S1
    · walk_at "rd"
      refine Vb.r_ite (fun c2 => ?_) (fun c2 => ?_)
      · walk_at "rd"
        exact q _ _ (by omega) (by omega) (by omega) f1 S1
      · walk_at "rd"
        refine Vb.r_ite (fun c3 => ?_) (fun c3 => ?_)
        · walk_at "rd"
          refine q _ _ ?_ ?_ ?_ f1 S1 <;> split <;> omega
        · walk_at "rd"
          refine use_take S1 (by omega) fun v2 H2 b1 b2 b3 f2 S2 => ?_
          walk_at "rd"
          exact q _ _ (by omega) (by omega) (by omega) (f1.trans f2) S2
end
end K
namespace K
open PySem PySem.Spec PyProof.Rows L2
abbrev N__law_chance : List Str := ["store", "part"]
theorem sc__law_chance : FnScope N__law_chance ["store", "part"] (defScope s__law_chance) := ⟨rfl, rfl, rfl, by decide +kernel, rfl, by decide +kernel, by decide +kernel⟩
section
variable {P : Program} {w : World} {K : PySem.W.Frag} {mg : Str → Option Value} {base : Heap}
def sp_chance (K : PySem.W.Frag) : Sp := fun vs H Q _ => ∃ (st : Addr) (m : Int), vs = [.ref st, .int m] ∧ Vb.StoreAt H st ∧ m < 1073741824 ∧ ∀ (b : Bool) (H' : Hp), Vb.Fr st H H' → Vb.StoreAt H' st → Q (.bl b) H'
theorem use_chance {st : Addr} {m : Int} {H : Hp} {Q : VK} {E : XK} (h1 : Vb.StoreAt H st) (h2 : m < 1073741824) (h : ∀ (b : Bool) (H' : Hp), Vb.Fr st H H' → Vb.StoreAt H' st → Q (.bl b) H') : sp_chance K [.ref st, .int m] H Q E := ⟨st, m, rfl, h1, h2, h⟩
theorem ok_chance (T : Txt K mg) : FnOk P w K mg base (L2N.CX P w) 3 T.f__law_chance T.fd__law_chance ["store", "part"] (sp_chance K) := by
  have G__law_take := ok_take (P := P) (w := w) (base := base) T
  refine Vb.okN T.d__law_chance.F sc__law_chance (fun vs H Q E h => ?_) (fun cdv A outer s H vs Q E hr h => ?_)
  · obtain ⟨a, b, rfl, _⟩ := h
    rfl
  · obtain ⟨st, m, rfl, hS, hm, q⟩ := h
    refine ⟨_, (pss_one (ps_ret (pe_cmpR op_eq (pe_callS G__law_take (hr.mono (by first | decide | omega)) (by rfl) T.d__law_take.g T.d__law_take.F.kp T.d__law_take.b (fun σ => L2N.passAt (L2N.takes_of rfl rfl rfl rfl) σ) (pa_cons (pv 0) (pa_cons (pv 1) pa_nil))) (pe_op op_sub (pe_callB (Vb.call_max2 rfl) (by rfl) T.n_max (by decide +kernel) (pa_cons pe_int (pa_cons (pv 1) pa_nil))) pe_int) (nomark _)))), ?_⟩
    (change (_ : L2.TS) _ ([some (.ref st), some (.int m)] : L2.St) _); try dsimp only [L2.cxOf, L2H.cxH]
    walk_at "rd"
    refine use_take hS hm fun t H1 _ _ _ f1 S1 => ?_
    walk_at "rd"
    exact q _ _ f1 S1
end
end K
namespace K
open PySem PySem.Spec PyProof.Rows L2
abbrev N__law_pick : List Str := ["store", "row"]
theorem sc__law_pick : FnScope N__law_pick ["store", "row"] (defScope s__law_pick) := ⟨rfl, rfl, rfl, by decide +kernel, rfl, by decide +kernel, by decide +kernel⟩
section
variable {P : Program} {w : World} {K : PySem.W.Frag} {mg : Str → Option Value} {base : Heap}
def sp_pick (K : PySem.W.Frag) : Sp := fun vs H Q _ => ∃ (st a : Addr) (xs : List V), vs = [.ref st, .ref a] ∧ Vb.StoreAt H st ∧ a ≠ st ∧ SqL K H a xs ∧ xs.length < 1000000 ∧ (xs = [] → Q .non H) ∧ ∀ (i : Nat) (v : V) (H' : Hp), xs[i]? = some v → Vb.Fr st H H' → Vb.StoreAt H' st → Q v H'
theorem use_pick {st a : Addr} {H : Hp} {Q : VK} {E : XK} (xs : List V) (h1 : Vb.StoreAt H st) (h2 : a ≠ st) (h3 : SqL K H a xs) (h4 : xs.length < 1000000) (h5 : xs ≠ []) (h : ∀ (i : Nat) (v : V) (H' : Hp), xs[i]? = some v → Vb.Fr st H H' → Vb.StoreAt H' st → Q v H') : sp_pick K [.ref st, .ref a] H Q E := ⟨st, a, xs, rfl, h1, h2, h3, h4, fun e => absurd e h5, h⟩
theorem ok_pick (T : Txt K mg) : FnOk P w K mg base (L2N.CX P w) 3 T.f__law_pick T.fd__law_pick ["store", "row"] (sp_pick K) := by
  have G__law_take := ok_take (P := P) (w := w) (base := base) T
  refine Vb.okN T.d__law_pick.F sc__law_pick (fun vs H Q E h => ?_) (fun cdv A outer s H vs Q E hr h => ?_)
  · obtain ⟨a, b, c, rfl, _⟩ := h
    rfl
  · obtain ⟨st, a, xs, rfl, hS, hne, hx, hb, q0, q⟩ := h
    refine ⟨_, (pss_cons (ps_if (pt_cmpR op_eq (pe_callB Vb.call_len (by rfl) T.n_len (by decide +kernel) (pa_cons (pv 1) pa_nil)) pe_int (nomark _)) (pss_one (ps_ret pe_non)) pss_nil)
      (pss_one (ps_ret (pe_ix ix_list (pv 1) (pe_callS G__law_take (hr.mono (by first | decide | omega)) (by rfl) T.d__law_take.g T.d__law_take.F.kp T.d__law_take.b (fun σ => L2N.passAt (L2N.takes_of rfl rfl rfl rfl) σ) (pa_cons (pv 0) (pa_cons (pe_callB Vb.call_len (by rfl) T.n_len (by decide +kernel) (pa_cons (pv 1) pa_nil)) pa_nil))) (fun _ _ => rfl))))), ?_⟩
    (change (_ : L2.TS) _ ([some (.ref st), some (.ref a)] : L2.St) _); try dsimp only [L2.cxOf, L2H.cxH]
    walk_at "rd"
    refine Vb.r_ite (fun c1 => ?_) (fun c1 => ?_)
    · walk_at "rd"
      exact q0 (List.eq_nil_of_length_eq_zero (by omega))
    · walk_at "rd"
      refine use_take hS (by omega) fun v H1 a1 a2 a3 f1 S1 => ?_
      have hlt : v.toNat < xs.length := by omega
      refine Vb.r_ixL (f1.seq hne hx) (Vb.at_lit v.toNat (by omega) (List.getElem?_eq_getElem hlt)) ?_
      exact q _ _ _ (List.getElem?_eq_getElem hlt) f1 S1
end
end K
namespace K
open PySem PySem.Spec PyProof.Rows L2
abbrev N__law_spoil_list : List Str := ["row", "item"]
theorem sc__law_spoil_list : FnScope N__law_spoil_list ["row"] (defScope s__law_spoil_list) := ⟨rfl, rfl, rfl, by decide +kernel, rfl, by decide +kernel, by decide +kernel⟩
section
variable {P : Program} {w : World} {K : PySem.W.Frag} {mg : Str → Option Value} {base : Heap}
/-- a list of ints is turned about, and None put behind -/
def sp_spoil (K : PySem.W.Frag) : Sp := fun vs H Q _ => ∃ (a : Addr) (ns : List Int), vs = [.ref a] ∧ H a = some (.lst (ns.map V.int)) ∧ ns.length ≤ 1000000 ∧ Q .non (upd (upd H a (.lst (ns.map V.int).reverse)) a (.lst ((ns.map V.int).reverse ++ [.non])))
theorem ok_spoil (T : Txt K mg) : FnOk P w K mg base (L2N.CX P w) 1 T.f__law_spoil_list T.fd__law_spoil_list ["row"] (sp_spoil K) := by
  refine Vb.okN T.d__law_spoil_list.F sc__law_spoil_list (fun vs H Q E h => ?_) (fun cdv A outer s H vs Q E hr h => ?_)
  · obtain ⟨a, b, rfl, _⟩ := h
    rfl
  · obtain ⟨a, ns, rfl, ha, hl, q⟩ := h
    have hd : Dp K H (.ref a) (.list (ns.map PyData.int)) := Vb.dp_ints (Vb.sq_of ha)
    refine ⟨_, (pss_one (ps_if (pt_val (pe_callB call_isi (by rfl) T.n_isinstance (by decide +kernel) (pa_cons (pv 0) (pa_cons (pe_bltn (v := .ty "list") (by rfl) T.n_list (by decide +kernel) rfl) pa_nil)))) (pss_cons (ps_for (L2.passes_of rfl) rfl (pi_list (pv 0)) (pg_name (i := 1) sc__law_spoil_list.nd rfl (by first | exact Or.inl rfl | exact Or.inr rfl))
        (pss_one (ps_if (pt_val (pe_callB call_isi (by rfl) T.n_isinstance (by decide +kernel) (pa_cons (pv 1) (pa_cons (pe_bltn (v := .ty "list") (by rfl) T.n_list (by decide +kernel) rfl) pa_nil)))) (pss_one (ps_expr (pe_bm PySem.F.plainAttrs_list PySem.F.slot_list_append PySem.F.type_list_append mt_append (pv 1) (pa_cons pe_int pa_nil)))) pss_nil)))
      (pss_cons (ps_expr (pe_bm0 PySem.F.plainAttrs_list PySem.F.slot_list_reverse PySem.F.type_list_reverse mt_reverse (pv 0)))
      (pss_one (ps_expr (pe_bm PySem.F.plainAttrs_list PySem.F.slot_list_append PySem.F.type_list_append mt_append (pv 0) (pa_cons pe_non pa_nil)))))) pss_nil)), ?_⟩
    (change (_ : L2.TS) _ ([some (.ref a), none] : L2.St) _); try dsimp only [L2.cxOf, L2H.cxH]
    walk_at "rd"
    refine Vb.lp_list (xs := ns.map V.int) (fun i σ H' => H' = H ∧ ∃ y, σ = [some (.ref a), y]) ⟨rfl, none, rfl⟩ (fun i σ H' _ c => by rw [c.1]; exact Vb.sq_of ha) ?_ ?_
    · rintro i x σ H' hi ⟨rfl, y, rfl⟩
      obtain ⟨z, _, rfl⟩ := Vb.getV' hi
      have hz : Dp K H' (.int z) (.int z) := .int z
      walk_at "rd"
      exact ⟨rfl, _, rfl⟩
    · rintro σ H' ⟨rfl, y, rfl⟩
      walk_at "rd"
      refine Vb.r_app (upd_same) (Vb.size_lt (by rw [List.length_reverse, List.length_map]; omega)) ?_
      exact q
end
end K
namespace K
open PySem PySem.Spec PyProof.Rows L2

abbrev N_is_name : List Str := ["word", "letter"]
theorem sc_is_name : FnScope N_is_name ["word"] (defScope s_is_name) := ⟨rfl, rfl, rfl, by decide +kernel, rfl, by decide +kernel, by decide +kernel⟩
section
variable {P : Program} {w : World} {K : PySem.W.Frag} {mg : Str → Option Value} {base : Heap}
/-- the letters, the figures, as signs -/
abbrev LET : Str := Str.ofString "abcdefghijklmnopqrstuvwxyz"
abbrev FIG : Str := Str.ofString "0123456789"
def nsign (c : Nat) : Bool := decide (c ∈ Vb.sg (LET ++ FIG))
/-- a name, sign by sign -/
def nameL : List Nat → Bool
  | [] => false
  | c :: l => decide (l.length < 12) && (decide (c ∈ Vb.sg LET) && (c :: l).all nsign)
def nameD : PyData → Bool
  | .str s => nameL (Vb.sg s)
  | _ => false
def StrOk (d : PyData) : Prop := ∀ s, d = .str s → s.length ≤ 1000000
theorem sg_cons {s : Str} (h : 1 ≤ s.length) : ∃ c l, Vb.sg s = c :: l ∧ s.length = l.length + 1 := by
  rw [Vb.sg_len] at h
  rw [Vb.sg_len]
  cases e : Vb.sg s with
  | nil => rw [e] at h; exact absurd h (by decide)
  | cons c l => exact ⟨c, l, rfl, rfl⟩
theorem at_zero {c : Nat} {l : List Nat} : atI (c :: l) 0 = some c := Vb.at_sgn 0 rfl rfl
def sp_isname (K : PySem.W.Frag) : Sp := fun vs H Q _ => ∃ (v : V) (d : PyData), vs = [v] ∧ Dp K H v d ∧ StrOk d ∧ ∀ H', Same H H' → Q (.bl (nameD d)) H'
theorem ok_isname (T : Txt K mg) : FnOk P w K mg base (L2N.CX P w) 1 T.f_is_name T.fd_is_name ["word"] (sp_isname K) := by
  refine Vb.okN T.d_is_name.F sc_is_name (fun vs H Q E h => ?_) (fun cdv A outer s H vs Q E hr h => ?_)
  · obtain ⟨v, d, rfl, _⟩ := h
    rfl
  · obtain ⟨v, d, rfl, hd, hk, q⟩ := h
    refine ⟨_, (pss_cons (ps_if (PW.pt (pw_or (pt_not (pt_val (pe_callB call_isi (by rfl) T.n_isinstance (by decide +kernel) (pa_cons (pv 0) (pa_cons (pe_bltn (v := .ty "str") (by rfl) T.n_str (by decide +kernel) rfl) pa_nil))))) (pw_or1 (pt_not (pt_chain op_le op_le pe_int (pe_callB Vb.call_lenS (by rfl) T.n_len (by decide +kernel) (pa_cons (pv 0) pa_nil)) (pe_glob (v := .int 12) (by rfl) T.c_MAX_NAME ⟨_, rfl⟩)))))) (pss_one (ps_ret pe_bl)) pss_nil)
      (pss_one (ps_ret (pe_and (pe_cmpR Vb.op_inSg (pe_ix ix_str (pv 0) pe_int (fun _ _ => rfl)) (pe_glob (v := .str (Str.ofString "abcdefghijklmnopqrstuvwxyz")) (by rfl) T.c_LETTERS ⟨_, rfl⟩) (by rfl)) (pe_one (pe_callB (Vb.call_all rfl) (by rfl) T.n_all (by decide +kernel) (pa_cons (pe_lc (own := [("letter", 1)]) (g := gName 1) (tt := tYes) rfl sc_is_name.nd (pi_str (pv 0)) (blkOk_by (own := [("letter", 1)]) (N := N_is_name) (sc := defScope s_is_name) (by decide +kernel)) (fun _ _ _ _ _ => (pg_name (i := 1) sc_is_name.nd rfl (by first | exact Or.inl rfl | exact Or.inr rfl))) (fun _ _ _ _ _ => pts_nil) (fun _ _ _ _ _ => (pe_cmpR Vb.op_inSg (pv 1) (pe_op Vb.op_addS (pe_glob (v := .str (Str.ofString "abcdefghijklmnopqrstuvwxyz")) (by rfl) T.c_LETTERS ⟨_, rfl⟩) (pe_glob (v := .str (Str.ofString "0123456789")) (by rfl) T.c_FIGURES ⟨_, rfl⟩)) (by rfl)))) pa_nil))))))), ?_⟩
    (change (_ : L2.TS) _ ([some (v), none] : L2.St) _); try dsimp only [L2.cxOf, L2H.cxH]
    cases d with
    | str s =>
      cases hd
      have hz := hk s rfl
      have hd : Dp K H (.str s) (.str s) := .str s
      walk_at "rd"
      refine Vb.r_ite (fun c1 => ?_) (fun c1 => ?_)
      · obtain ⟨c, l, e, hl⟩ := sg_cons (s := s) (by omega)
        walk_at "rd"
        refine Vb.r_iteN (fun c2 => ?_) (fun c2 => ?_)
        · walk_at "rd"
          have f : nameD (.str s) = false := by
            show nameL (Vb.sg s) = false
            rw [e]
            show (decide (l.length < 12) && _) = false
            rw [decide_eq_false (by omega)]
            rfl
          rw [← f]
          exact q _ (Same.refl _)
        walk_at "rd"
        refine Vb.r_ixS (Vb.size_ok (by omega)) (by rw [e]; exact at_zero) ?_
        walk_at "rd"
        have g : nameD (.str s) = (decide (c ∈ Vb.sg LET) && (c :: l).all nsign) := by
          show nameL (Vb.sg s) = _
          rw [e]
          show (decide (l.length < 12) && _) = _
          rw [decide_eq_true (by omega)]
          rfl
        rw [g] at q
        refine Vb.r_ite (fun c3 => ?_) (fun c3 => ?_)
        · rw [decide_eq_true c3, Bool.true_and] at q
          walk_at "rd"
          intro D hD
          have hsl := Vb.sg_len s
          refine Vb.lcw_str (fun i H' => Same H H' ∧ H' D = some (.lst ((((Vb.sg s).take i).map nsign).map V.bl))) ⟨Vb.same_new hD, by rw [List.take_zero]; exact upd_same⟩ (fun _ => rfl) ?_ ?_
          · rintro i b H' hb ⟨e1, h1⟩
            walk_at "rd"
            refine ⟨_, h1, Vb.size_lt (by rw [List.length_map, List.length_map, List.length_take]; omega), Vb.same_mut e1 hD, ?_⟩
            rw [upd_same, List.take_add_one, hb]
            simp [nsign]
          · rintro H' ⟨e1, h1⟩
            rw [List.take_length] at h1
            refine Vb.r_all (bs := (Vb.sg s).map nsign) (Vb.sq_of h1) ?_
            rw [List.all_map, e]
            exact q H' e1
        · rw [decide_eq_false c3, Bool.false_and] at q
          exact q _ (Same.refl _)
      · walk_at "rd"
        have f : nameD (.str s) = false := by
          show nameL (Vb.sg s) = false
          have : (Vb.sg s).length = 0 := by rw [← Vb.sg_len]; omega
          rw [List.eq_nil_of_length_eq_zero this]
          rfl
        rw [← f]
        exact q _ (Same.refl _)
    | _ =>
      walk_at "rd"
      exact q _ (Same.refl _)
end
end K
namespace K
open PySem PySem.Spec PyProof.Rows L2

abbrev N_split_words : List Str := ["text", "words"]
theorem sc_split_words : FnScope N_split_words ["text"] (defScope s_split_words) := ⟨rfl, rfl, rfl, by decide +kernel, rfl, by decide +kernel, by decide +kernel⟩
section
variable {P : Program} {w : World} {K : PySem.W.Frag} {mg : Str → Option Value} {base : Heap}
/-- the words of a text that is one of words joined by spaces -/
def dueW (s : Str) : Option (List Str) := if s = Str.ofString "" then some [] else if Str.ofString "" ∈ Txt.split s (Str.ofString " ") ∨ 10 ∈ Vb.sg s then none else some (Txt.split s (Str.ofString " "))
theorem sp_split {s : Str} : (Txt.split s (Str.ofString " ")).map Vb.sg = TL.spl [32] 0 [] (Vb.sg s) := TL.split_spl s (Str.ofString " ") (by rw [show TL.tl (Str.ofString " ") = [32] from Vb.sp_sg]; decide) (TL.kind_ok (by decide +kernel))
def sp_splitwords (C : Addr) : Sp := fun vs H Q E => ∃ (s : Str), vs = [.str s] ∧ s.length ≤ 1000000 ∧ (dueW s = none → ∀ H', Same H H' → E (.ref C) none H') ∧ (∀ ys, dueW s = some ys → ∀ (l : Addr) (H' : Hp), H l = none → Same H H' → H' l = some (.lst (ys.map V.str)) → Q (.ref l) H')
theorem ok_splitwords (T : Txt K mg) : FnOk P w K mg base (L2N.CX P w) 1 T.f_split_words T.fd_split_words ["text"] (sp_splitwords T.C_BadText) := by
  refine Vb.okN T.d_split_words.F sc_split_words (fun vs H Q E h => ?_) (fun cdv A outer s H vs Q E hr h => ?_)
  · obtain ⟨x, rfl, _⟩ := h
    rfl
  · obtain ⟨x, rfl, hz, qn, qs⟩ := h
    refine ⟨_, (pss_cons (ps_if (pt_cmpR op_eq (pv 0) pe_str (nomark _)) (pss_one (ps_ret (pe_lst pa_nil))) pss_nil)
      (pss_cons (ps_set (i := 1) sc_split_words.nd rfl (by first | exact Or.inl rfl | exact Or.inr rfl) (Vb.pe_splitN (pv 0) pe_str))
      (pss_cons (ps_if (PW.pt (pw_or (pt_cmpR op_in_seq pe_str (pv 1) (by rfl)) (pw_or1 (pt_cmpR Vb.op_inSg pe_str (pv 0) (by rfl))))) (pss_one (L2N.ps_raise rfl (L2N.takes_of rfl rfl rfl rfl) (Vb.pmk0 T.x_BadText rfl))) pss_nil)
      (pss_one (ps_ret (pv 1)))))), ?_⟩
    (change (_ : L2.TS) _ ([some (.str x), none] : L2.St) _); try dsimp only [L2.cxOf, L2H.cxH]
    walk_at "rd"
    refine Vb.r_ite (fun c => ?_) (fun c => ?_)
    · walk_at "rx"
      refine qs [] (if_pos c) _ _ (by assumption) (by walk_at "sm") (by walk_at "hp")
    walk_at "rx"
    refine Vb.r_split (by decide +kernel) (Vb.size_ok (by omega)) fun l nl => ?_
    have el := Vb.same_new (o := .lst ((Txt.split x (Str.ofString " ")).map V.str)) nl
    walk_at "rx"
    refine Vb.r_inW (Vb.sq_of upd_same) ?_
    walk_at "rx"
    have due : dueW x = if Str.ofString "" ∈ Txt.split x (Str.ofString " ") ∨ 10 ∈ Vb.sg x then none else some (Txt.split x (Str.ofString " ")) := if_neg c
    refine Vb.r_ite (fun c1 => ?_) (fun c1 => ?_)
    · walk_at "rx"
      exact qn (due.trans (if_pos (.inl c1))) _ el
    walk_at "rx"
    refine Vb.r_inSgV Vb.nl_sg ?_
    walk_at "rx"
    refine Vb.r_ite (fun c2 => ?_) (fun c2 => ?_)
    · walk_at "rx"
      exact qn (due.trans (if_pos (.inr c2))) _ el
    · walk_at "rx"
      exact qs _ (due.trans (if_neg fun z => z.elim c1 c2)) _ _ nl el upd_same
end
end K
namespace K
open PySem PySem.Spec PyProof.Rows L2

abbrev N__law_words_due : List Str := ["text", "words", "sign", "word"]
theorem sc__law_words_due : FnScope N__law_words_due ["text"] (defScope s__law_words_due) := ⟨rfl, rfl, rfl, by decide +kernel, rfl, by decide +kernel, by decide +kernel⟩
section
/-- a step of the cut at spaces -/
theorem spl_space {acc r : List Nat} : TL.spl [32] 0 acc (32 :: r) = acc :: TL.spl [32] 0 [] r := TL.spl_hit (by simp [TL.pre])
theorem one_eq {b k : Nat} {s : Str} (h : Vb.sg s = [k]) : (⟨#[b]⟩ : Str) = s ↔ b = k := by
  constructor
  · intro e
    have : Vb.sg ⟨#[b]⟩ = [k] := by rw [e, h]
    exact (List.cons.inj this).1
  · rintro rfl
    exact Vb.sg_ext (by rw [h])
theorem spl_sign {acc r : List Nat} {c : Nat} (h : c ≠ 32) : TL.spl [32] 0 acc (c :: r) = TL.spl [32] 0 (acc ++ [c]) r := TL.spl_miss (TL.pre_of_head [] r h)
variable {P : Program} {w : World} {K : PySem.W.Frag} {mg : Str → Option Value} {base : Heap}
def sp_wordsdue : Sp := fun vs H Q _ => ∃ (s : Str), vs = [.str s] ∧ s.length ≤ 1000000 ∧ (dueW s = none → ∀ H', Same H H' → Q .non H') ∧ (∀ ys, dueW s = some ys → ∀ (l : Addr) (H' : Hp), H l = none → Same H H' → H' l = some (.lst (ys.map V.str)) → Q (.ref l) H')
theorem ok_wordsdue (T : Txt K mg) : FnOk P w K mg base (L2N.CX P w) 1 T.f__law_words_due T.fd__law_words_due ["text"] sp_wordsdue := by
  refine Vb.okN T.d__law_words_due.F sc__law_words_due (fun vs H Q E h => ?_) (fun cdv A outer s H vs Q E hr h => ?_)
  · obtain ⟨x, rfl, _⟩ := h
    rfl
  · obtain ⟨x, rfl, hz, qn, qs⟩ := h
    refine ⟨_, (pss_cons (ps_if (pt_cmpR op_eq (pv 0) pe_str (nomark _)) (pss_one (ps_ret (pe_lst pa_nil))) pss_nil)
      (pss_cons (ps_set (i := 1) sc__law_words_due.nd rfl (by first | exact Or.inl rfl | exact Or.inr rfl) (pe_lst (pa_cons pe_str pa_nil)))
      (pss_cons (ps_for (L2.passes_of rfl) rfl (pi_str (pv 0)) (pg_name (i := 2) sc__law_words_due.nd rfl (by first | exact Or.inl rfl | exact Or.inr rfl))
        (pss_cons (ps_if (pt_cmpR op_eq (pv 2) pe_str (nomark _)) (pss_one (ps_ret pe_non)) pss_nil)
      (pss_one (ps_if (pt_cmpR op_eq (pv 2) pe_str (nomark _)) (pss_one (ps_expr (pe_bm PySem.F.plainAttrs_list PySem.F.slot_list_append PySem.F.type_list_append mt_append (pv 1) (pa_cons pe_str pa_nil)))) (pss_one (ps_asg (pe_op Vb.op_addS (pe_ix ix_list (pv 1) (pe_op op_sub (pe_callB Vb.call_len (by rfl) T.n_len (by decide +kernel) (pa_cons (pv 1) pa_nil)) pe_int) (fun _ _ => rfl)) (pv 2)) (pg_sub (pv 1) (pe_op op_sub (pe_callB Vb.call_len (by rfl) T.n_len (by decide +kernel) (pa_cons (pv 1) pa_nil)) pe_int) set_list)))))))
      (pss_cons (ps_for (L2.passes_of rfl) rfl (pi_list (pv 1)) (pg_name (i := 3) sc__law_words_due.nd rfl (by first | exact Or.inl rfl | exact Or.inr rfl))
        (pss_one (ps_if (pt_cmpR op_eq (pv 3) pe_str (nomark _)) (pss_one (ps_ret pe_non)) pss_nil)))
      (pss_one (ps_ret (pv 1))))))), ?_⟩
    (change (_ : L2.TS) _ ([some (.str x), none, none, none] : L2.St) _); try dsimp only [L2.cxOf, L2H.cxH]
    walk_at "rd"
    refine Vb.r_ite (fun c => ?_) (fun c => ?_)
    · walk_at "rx"
      refine qs [] (if_pos c) _ _ (by assumption) (by walk_at "sm") (by walk_at "hp")
    have due : dueW x = if Str.ofString "" ∈ Txt.split x (Str.ofString " ") ∨ 10 ∈ Vb.sg x then none else some (Txt.split x (Str.ofString " ")) := if_neg c
    have hsl := Vb.sg_len x
    walk_at "rd"
    refine ⟨Vb.size_ok (by show 1 ≤ 16777216; decide), fun l nl => ?_⟩
    walk_at "rd"
    refine Vb.lp_str (fun i σ H' => ∃ (ws : List Str) (cur : Str) (y : Option V), Same H H' ∧ H' l = some (.lst ((ws ++ [cur]).map V.str)) ∧ ws.length ≤ i ∧ cur.length ≤ i ∧ TL.spl [32] 0 [] (Vb.sg x) = ws.map Vb.sg ++ TL.spl [32] 0 (Vb.sg cur) ((Vb.sg x).drop i) ∧ 10 ∉ (Vb.sg x).take i ∧ σ = [some (.str x), some (.ref l), y, none]) ⟨[], Str.ofString "", _, Vb.same_new nl, upd_same, Nat.le_refl _, by rw [Vb.len_lit]; decide, by rw [Vb.em_sg]; rfl, by rw [List.take_zero]; exact List.not_mem_nil, rfl⟩ ?_ ?_
    · rintro i b σ H' hb ⟨ws, cur, y, e1, h1, hw, hc, hs, hn, rfl⟩
      have hi : i < (Vb.sg x).length := (List.getElem?_eq_some_iff.mp hb).1
      have hdrop : (Vb.sg x).drop i = b :: (Vb.sg x).drop (i + 1) := by
        rw [List.drop_eq_getElem_cons hi]
        rw [(List.getElem?_eq_some_iff.mp hb).2]
      have htake : (Vb.sg x).take (i + 1) = (Vb.sg x).take i ++ [b] := by rw [List.take_add_one, hb]; rfl
      have hlen : ((ws ++ [cur]).map V.str).length = ws.length + 1 := by rw [List.length_map, List.length_append]; rfl
      have hat : ((ws ++ [cur]).map V.str)[ws.length]? = some (.str cur) := by simp
      walk_at "rd"
      refine Vb.r_ite (fun c1 => ?_) (fun c1 => ?_)
      · have b10 : b = 10 := (one_eq Vb.nl_sg).mp c1
        walk_at "rd"
        exact qn (due.trans (if_pos (.inr (b10 ▸ List.mem_of_getElem? hb)))) _ e1
      have b10 : b ≠ 10 := fun z => c1 ((one_eq Vb.nl_sg).mpr z)
      have hn2 : 10 ∉ (Vb.sg x).take (i + 1) := by
        rw [htake]
        intro m
        rcases List.mem_append.mp m with m | m
        · exact hn m
        · exact b10 (List.mem_singleton.mp m).symm
      walk_at "rd"
      refine Vb.r_ite (fun c2 => ?_) (fun c2 => ?_)
      · have b32 : b = 32 := (one_eq Vb.sp_sg).mp c2
        subst b32
        walk_at "rd"
        refine ⟨ws ++ [cur], Str.ofString "", _, Vb.same_mut e1 nl, by rw [upd_same, List.map_append (l₂ := [Str.ofString ""])]; rfl, by rw [List.length_append]; exact Nat.succ_le_succ hw, by rw [Vb.len_lit]; simp, ?_, hn2, rfl⟩
        rw [hs, hdrop, spl_space, Vb.em_sg]
        simp
      · have b32 : b ≠ 32 := fun z => c2 ((one_eq Vb.sp_sg).mpr z)
        walk_at "rd"
        refine Vb.r_ixL (Vb.sq_of h1) (Vb.at_lit ws.length (by rw [hlen]; omega) hat) ?_
        walk_at "rd"
        refine Vb.r_setL h1 (Vb.ix_nat ws.length (by rw [hlen]; omega) (by rw [hlen]; omega)) ?_
        refine ⟨ws, cur ++ ⟨#[b]⟩, _, Vb.same_mut e1 nl, by rw [upd_same]; simp, by omega, by rw [Vb.len_app, Vb.len_one]; omega, ?_, hn2, rfl⟩
        rw [hs, hdrop, spl_sign b32, Vb.sg_app]
    · rintro σ H' ⟨ws, cur, y, e1, h1, hw, hc, hs, hn, rfl⟩
      rw [List.drop_length, TL.spl_nil] at hs
      rw [List.take_length] at hn
      have hsp : Txt.split x (Str.ofString " ") = ws ++ [cur] := TL.map_tl_inj (by rw [List.map_append]; exact sp_split.trans hs)
      rw [hsp] at due
      walk_at "rd"
      refine Vb.lp_list (xs := (ws ++ [cur]).map V.str) (fun i σ H2 => H2 = H' ∧ (∀ w ∈ (ws ++ [cur]).take i, w ≠ Str.ofString "") ∧ ∃ z, σ = [some (.str x), some (.ref l), y, z]) ⟨rfl, fun w m => absurd (by rw [List.take_zero] at m; exact m) List.not_mem_nil, _, rfl⟩ (fun i σ H2 _ c => by rw [c.1]; exact Vb.sq_of h1) ?_ ?_
      · rintro i v σ H2 hv ⟨rfl, hw2, z, rfl⟩
        rw [List.getElem?_map] at hv
        obtain ⟨w, hw3, rfl⟩ := Option.map_eq_some_iff.mp hv
        walk_at "rd"
        refine Vb.r_ite (fun c1 => ?_) (fun c1 => ?_)
        · walk_at "rd"
          exact qn (due.trans (if_pos (.inl (c1 ▸ List.mem_of_getElem? hw3)))) _ e1
        · walk_at "rd"
          refine ⟨rfl, fun u m => ?_, _, rfl⟩
          rw [List.take_add_one, hw3] at m
          rcases List.mem_append.mp m with m | m
          · exact hw2 u m
          · rw [List.mem_singleton.mp m]
            exact c1
      · rintro σ H2 ⟨rfl, hw2, z, rfl⟩
        rw [List.length_map, List.take_length] at hw2
        walk_at "rd"
        exact qs _ (due.trans (if_neg fun z => z.elim (fun m => hw2 _ m rfl) hn)) _ _ nl e1 h1
end
end K
namespace K
open PySem PySem.Spec PyProof.Rows L2
section
theorem dpa_strs {K : PySem.W.Frag} {H : Hp} : ∀ (ys : List Str), DpAll K H (ys.map V.str) (ys.map PyData.str)
  | [] => .nil
  | y :: ys => .cons (.str y) (dpa_strs ys)
variable {P : Program} {w : World} {K : PySem.W.Frag} {mg : Str → Option Value} {base : Heap}
/-- a list of texts is turned about, and None put behind -/
def sp_spoilS (K : PySem.W.Frag) : Sp := fun vs H Q _ => ∃ (a : Addr) (ns : List Str), vs = [.ref a] ∧ H a = some (.lst (ns.map V.str)) ∧ ns.length ≤ 1000000 ∧ Q .non (upd (upd H a (.lst (ns.map V.str).reverse)) a (.lst ((ns.map V.str).reverse ++ [.non])))
theorem ok_spoilS (T : Txt K mg) : FnOk P w K mg base (L2N.CX P w) 1 T.f__law_spoil_list T.fd__law_spoil_list ["row"] (sp_spoilS K) := by
  refine Vb.okN T.d__law_spoil_list.F sc__law_spoil_list (fun vs H Q E h => ?_) (fun cdv A outer s H vs Q E hr h => ?_)
  · obtain ⟨a, b, rfl, _⟩ := h
    rfl
  · obtain ⟨a, ns, rfl, ha, hl, q⟩ := h
    have hd : Dp K H (.ref a) (.list (ns.map PyData.str)) := Vb.dp_lst ha (dpa_strs ns)
    refine ⟨_, (pss_one (ps_if (pt_val (pe_callB call_isi (by rfl) T.n_isinstance (by decide +kernel) (pa_cons (pv 0) (pa_cons (pe_bltn (v := .ty "list") (by rfl) T.n_list (by decide +kernel) rfl) pa_nil)))) (pss_cons (ps_for (L2.passes_of rfl) rfl (pi_list (pv 0)) (pg_name (i := 1) sc__law_spoil_list.nd rfl (by first | exact Or.inl rfl | exact Or.inr rfl))
        (pss_one (ps_if (pt_val (pe_callB call_isi (by rfl) T.n_isinstance (by decide +kernel) (pa_cons (pv 1) (pa_cons (pe_bltn (v := .ty "list") (by rfl) T.n_list (by decide +kernel) rfl) pa_nil)))) (pss_one (ps_expr (pe_bm PySem.F.plainAttrs_list PySem.F.slot_list_append PySem.F.type_list_append mt_append (pv 1) (pa_cons pe_int pa_nil)))) pss_nil)))
      (pss_cons (ps_expr (pe_bm0 PySem.F.plainAttrs_list PySem.F.slot_list_reverse PySem.F.type_list_reverse mt_reverse (pv 0)))
      (pss_one (ps_expr (pe_bm PySem.F.plainAttrs_list PySem.F.slot_list_append PySem.F.type_list_append mt_append (pv 0) (pa_cons pe_non pa_nil)))))) pss_nil)), ?_⟩
    (change (_ : L2.TS) _ ([some (.ref a), none] : L2.St) _); try dsimp only [L2.cxOf, L2H.cxH]
    walk_at "rd"
    refine Vb.lp_list (xs := ns.map V.str) (fun i σ H' => H' = H ∧ ∃ y, σ = [some (.ref a), y]) ⟨rfl, none, rfl⟩ (fun i σ H' _ c => by rw [c.1]; exact Vb.sq_of ha) ?_ ?_
    · rintro i x σ H' hi ⟨rfl, y, rfl⟩
      rw [List.getElem?_map] at hi
      obtain ⟨z, _, rfl⟩ := Option.map_eq_some_iff.mp hi
      have hz : Dp K H' (.str z) (.str z) := .str z
      walk_at "rd"
      exact ⟨rfl, _, rfl⟩
    · rintro σ H' ⟨rfl, y, rfl⟩
      walk_at "rd"
      refine Vb.r_app (upd_same) (Vb.size_lt (by rw [List.length_reverse, List.length_map]; omega)) ?_
      exact q
end
end K
namespace K
open PySem PySem.Spec PyProof.Rows L2

abbrev N__law_splits : List Str := ["text", "due", "actual", "e"]
theorem sc__law_splits : FnScope N__law_splits ["text"] (defScope s__law_splits) := ⟨rfl, rfl, rfl, by decide +kernel, rfl, by decide +kernel, by decide +kernel⟩
section
variable {P : Program} {w : World} {K : PySem.W.Frag} {mg : Str → Option Value} {base : Heap}
theorem due_len {s : Str} {ys : List Str} (h : dueW s = some ys) (hz : s.length ≤ 900000) : ys.length ≤ 900002 := by
  unfold dueW at h
  split at h
  · cases h
    exact Nat.zero_le _
  · split at h
    · cases h
    · cases h
      have := PyProof.Rows.split_le s (Str.ofString " ")
      omega
def sp_splits : Sp := fun vs H Q _ => ∃ (s : Str), vs = [.str s] ∧ s.length ≤ 900000 ∧ ∀ H', Same H H' → Q (.bl true) H'
theorem ok_splits (T : Txt K mg) : FnOk P w K mg base (L2N.CX P w) 7 T.f__law_splits T.fd__law_splits ["text"] sp_splits := by
  have G__law_words_due := ok_wordsdue (P := P) (w := w) (base := base) T
  have G_split_words := ok_splitwords (P := P) (w := w) (base := base) T
  have G__law_same := ok_same (P := P) (w := w) (base := base) T 5
  have G__law_spoil_list := ok_spoilS (P := P) (w := w) (base := base) T
  refine Vb.okN T.d__law_splits.F sc__law_splits (fun vs H Q E h => ?_) (fun cdv A outer s H vs Q E hr h => ?_)
  · obtain ⟨x, rfl, _⟩ := h
    rfl
  · obtain ⟨x, rfl, hz, q⟩ := h
    have k_BadText_TooLarge := T.k_BadText_TooLarge
    have k_BadText_NoSuchName := T.k_BadText_NoSuchName
    have k_BadText_BadName := T.k_BadText_BadName
    have k_BadText_OutOfRange := T.k_BadText_OutOfRange
    have k_BadText_TalkError := T.k_BadText_TalkError
    have k_BadText_ValueError := T.k_BadText_ValueError
    refine ⟨_, (pss_cons (ps_set (i := 1) sc__law_splits.nd rfl (by first | exact Or.inl rfl | exact Or.inr rfl) (pe_callS G__law_words_due (hr.mono (by first | decide | omega)) (by rfl) T.d__law_words_due.g T.d__law_words_due.F.kp T.d__law_words_due.b (fun σ => L2N.passAt (L2N.takes_of rfl rfl rfl rfl) σ) (pa_cons (pv 0) pa_nil)))
      (pss_cons (L2N.ps_try_as (i := 3) (Wout := (fun cls d _ H => E cls d H)) rfl rfl sc__law_splits.nd rfl rfl ⟨rfl, by decide, Or.inl T.x_BadText.g⟩ (L2N.takes_of rfl rfl rfl rfl) (fun W pn xe tk po => (pss_one (ps_set (i := 2) sc__law_splits.nd rfl (by first | exact Or.inl rfl | exact Or.inr rfl) (pe_callS G_split_words (hr.mono (by first | decide | omega)) (by rfl) T.d_split_words.g T.d_split_words.F.kp T.d_split_words.b (fun σ => L2N.passAt tk σ) (pa_cons (pv 0) pa_nil)))))
        (fun a oe cls d pn hz hf => (pss_cons (ps_if (PW.pt (pw_or (pt_cmpR Vb.op_notN (pv 1) pe_non (nomark _)) (pw_or (pt_not (pt_val (pe_callB (Vb.call_isX T.xk_BadText hz hf) (by rfl) T.n_isinstance (by decide +kernel) (pa_cons (pv 3) (pa_cons (pe_glob (v := .ref T.C_TalkError) (by rfl) T.x_TalkError.g rfl) pa_nil))))) (pw_or1 (pt_not (pt_val (pe_callB (Vb.call_isX T.xk_BadText hz hf) (by rfl) T.n_isinstance (by decide +kernel) (pa_cons (pv 3) (pa_cons (pe_bltn (v := .ty "ValueError") (by rfl) T.n_ValueError (by decide +kernel) rfl) pa_nil))))))))) (pss_one (ps_ret pe_bl)) pss_nil)
      (pss_cons (ps_if (PW.pt (pw_or (pt_val (pe_callB (Vb.call_isX T.xk_BadText hz hf) (by rfl) T.n_isinstance (by decide +kernel) (pa_cons (pv 3) (pa_cons (pe_glob (v := .ref T.C_TooLarge) (by rfl) T.x_TooLarge.g rfl) pa_nil)))) (pw_or (pt_val (pe_callB (Vb.call_isX T.xk_BadText hz hf) (by rfl) T.n_isinstance (by decide +kernel) (pa_cons (pv 3) (pa_cons (pe_glob (v := .ref T.C_NoSuchName) (by rfl) T.g_NoSuchName rfl) pa_nil)))) (pw_or1 (pt_val (pe_callB (Vb.call_isX T.xk_BadText hz hf) (by rfl) T.n_isinstance (by decide +kernel) (pa_cons (pv 3) (pa_cons (pe_glob (v := .ref T.C_BadName) (by rfl) T.g_BadName rfl) pa_nil)))))))) (pss_one (ps_ret pe_bl)) pss_nil)
      (pss_one (ps_ret (pe_not (pe_callB (Vb.call_isX T.xk_BadText hz hf) (by rfl) T.n_isinstance (by decide +kernel) (pa_cons (pv 3) (pa_cons (pe_glob (v := .ref T.C_OutOfRange) (by rfl) T.x_OutOfRange.g rfl) pa_nil))))))))))
      (pss_cons (ps_if (PW.pt (pw_or (pt_cmpR Vb.op_isN (pv 1) pe_non (nomark _)) (pw_or1 (pt_not (pt_val (pe_callS G__law_same (hr.mono (by first | decide | omega)) (by rfl) T.d__law_same.g T.d__law_same.F.kp T.d__law_same.b (fun σ => L2N.passAt (L2N.takes_of rfl rfl rfl rfl) σ) (pa_cons (pv 2) (pa_cons (pv 1) pa_nil)))))))) (pss_one (ps_ret pe_bl)) pss_nil)
      (pss_cons (ps_expr (pe_callS G__law_spoil_list (hr.mono (by first | decide | omega)) (by rfl) T.d__law_spoil_list.g T.d__law_spoil_list.F.kp T.d__law_spoil_list.b (fun σ => L2N.passAt (L2N.takes_of rfl rfl rfl rfl) σ) (pa_cons (pv 2) pa_nil)))
      (pss_one (ps_ret (pe_callS G__law_same (hr.mono (by first | decide | omega)) (by rfl) T.d__law_same.g T.d__law_same.F.kp T.d__law_same.b (fun σ => L2N.passAt (L2N.takes_of rfl rfl rfl rfl) σ) (pa_cons (pe_callS G_split_words (hr.mono (by first | decide | omega)) (by rfl) T.d_split_words.g T.d_split_words.F.kp T.d_split_words.b (fun σ => L2N.passAt (L2N.takes_of rfl rfl rfl rfl) σ) (pa_cons (pv 0) pa_nil)) (pa_cons (pv 1) pa_nil))))))))), ?_⟩
    (change (_ : L2.TS) _ ([some (.str x), none, none, none] : L2.St) _); try dsimp only [L2.cxOf, L2H.cxH]
    walk_at "rd"
    refine ⟨x, rfl, (by omega), fun hn H1 e1 => ?_, fun ys hy l H1 nl e1 hl => ?_⟩
    · walk_at "rd"
      refine ⟨x, rfl, (by omega), fun _ H2 e2 => Vb.r_as T.xk_BadText fun ea hea => ?_, (fun ys hy => by rw [hn] at hy; cases hy)⟩
      walk_at "rd"
      refine Vb.r_iteN (fun z => absurd rfl z) (fun _ => ?_)
      walk_at "rd"
      exact q _ (e1.trans e2)
    · have hys := due_len hy hz
      walk_at "rd"
      refine ⟨x, rfl, (by omega), (fun hn => by rw [hn] at hy; cases hy), fun zs hy2 l2 H2 n2 e2 h2 => ?_⟩
      obtain rfl : ys = zs := by rw [hy] at hy2; exact Option.some.inj hy2
      walk_at "rd"
      refine Vb.r_ite (fun z => by cases z) (fun _ => ?_)
      have hok : Vb.DOk 5 (.list (ys.map PyData.str)) := ⟨by rw [List.length_map]; omega, fun d m => by
        obtain ⟨y, _, rfl⟩ := List.mem_map.mp m
        exact trivial⟩
      walk_at "rd"
      refine use_same _ (Vb.dp_lst h2 (dpa_strs ys)) (Vb.dp_lst (e2 _ _ hl) (dpa_strs ys)) hok ?_
      walk_at "rd"
      refine ⟨l2, ys, rfl, h2, by omega, ?_⟩
      have n20 : H l2 = none := e1.free n2
      have ne : l ≠ l2 := fun z => by rw [z] at hl; rw [n2] at hl; cases hl
      have e3 : Same H1 (upd (upd H2 l2 (.lst (ys.map V.str).reverse)) l2 (.lst ((ys.map V.str).reverse ++ [.non]))) := Vb.same_mut (Vb.same_mut e2 n2) n2
      generalize upd (upd H2 l2 _) l2 _ = H3 at e3 ⊢
      walk_at "rd"
      refine ⟨x, rfl, (by omega), (fun hn => by rw [hn] at hy; cases hy), fun zs hy3 l4 H4 n4 e4 h4 => ?_⟩
      obtain rfl : ys = zs := by rw [hy] at hy3; exact Option.some.inj hy3
      walk_at "rd"
      refine use_same _ (Vb.dp_lst h4 (dpa_strs ys)) (Vb.dp_lst (e4 _ _ (e3 _ _ hl)) (dpa_strs ys)) hok ?_
      exact q _ ((e1.trans e3).trans e4)
end
end K
namespace K
open PySem PySem.Spec PyProof.Rows L2

abbrev N__law_named : List Str := ["value", "letters", "sign"]
theorem sc__law_named : FnScope N__law_named ["value"] (defScope s__law_named) := ⟨rfl, rfl, rfl, by decide +kernel, rfl, by decide +kernel, by decide +kernel⟩
section
variable {P : Program} {w : World} {K : PySem.W.Frag} {mg : Str → Option Value} {base : Heap}
def sp_named (K : PySem.W.Frag) : Sp := fun vs H Q _ => ∃ (v : V) (d : PyData), vs = [v] ∧ Dp K H v d ∧ StrOk d ∧ Q (.bl (nameD d)) H
theorem ok_named (T : Txt K mg) : FnOk P w K mg base (L2N.CX P w) 1 T.f__law_named T.fd__law_named ["value"] (sp_named K) := by
  refine Vb.okN T.d__law_named.F sc__law_named (fun vs H Q E h => ?_) (fun cdv A outer s H vs Q E hr h => ?_)
  · obtain ⟨v, d, rfl, _⟩ := h
    rfl
  · obtain ⟨v, d, rfl, hd, hk, q⟩ := h
    refine ⟨_, (pss_cons (ps_if (PW.pt (pw_or (pt_not (pt_val (pe_callB call_isi (by rfl) T.n_isinstance (by decide +kernel) (pa_cons (pv 0) (pa_cons (pe_bltn (v := .ty "str") (by rfl) T.n_str (by decide +kernel) rfl) pa_nil))))) (pw_or (pt_cmpR op_eq (pv 0) pe_str (nomark _)) (pw_or1 (pt_cmpR op_gt (pe_callB Vb.call_lenS (by rfl) T.n_len (by decide +kernel) (pa_cons (pv 0) pa_nil)) pe_int (nomark _)))))) (pss_one (ps_ret pe_bl)) pss_nil)
      (pss_cons (ps_set (i := 1) sc__law_named.nd rfl (by first | exact Or.inl rfl | exact Or.inr rfl) pe_str)
      (pss_cons (ps_if (pt_cmpR Vb.op_niSg (pe_ix ix_str (pv 0) pe_int (fun _ _ => rfl)) (pv 1) (by rfl)) (pss_one (ps_ret pe_bl)) pss_nil)
      (pss_cons (ps_for (L2.passes_of rfl) rfl (pi_str (pv 0)) (pg_name (i := 2) sc__law_named.nd rfl (by first | exact Or.inl rfl | exact Or.inr rfl))
        (pss_one (ps_if (pt_cmpR Vb.op_niSg (pv 2) (pe_op Vb.op_addS (pv 1) pe_str) (by rfl)) (pss_one (ps_ret pe_bl)) pss_nil)))
      (pss_one (ps_ret pe_bl)))))), ?_⟩
    (change (_ : L2.TS) _ ([some (v), none, none] : L2.St) _); try dsimp only [L2.cxOf, L2H.cxH]
    cases d with
    | str s =>
      cases hd
      have hz := hk s rfl
      have hd : Dp K H (.str s) (.str s) := .str s
      have hsl := Vb.sg_len s
      walk_at "rd"
      refine Vb.r_ite (fun c1 => ?_) (fun c1 => ?_)
      · walk_at "rd"
        rw [show nameD (.str s) = false by rw [c1]; show nameL (Vb.sg (Str.ofString "")) = false; rw [Vb.em_sg]; rfl] at q
        exact q
      have h1 : 1 ≤ s.length := by
        rcases Nat.eq_zero_or_pos s.length with z | z
        · exact absurd (Vb.str_nil.mpr (List.eq_nil_of_length_eq_zero (by omega))) c1
        · exact z
      obtain ⟨c, l, e, hl⟩ := sg_cons h1
      walk_at "rd"
      refine Vb.r_ite (fun c2 => ?_) (fun c2 => ?_)
      · walk_at "rd"
        rw [show nameD (.str s) = false by
          show nameL (Vb.sg s) = false
          rw [e]
          show (decide (l.length < 12) && _) = false
          rw [decide_eq_false (by omega)]
          rfl] at q
        exact q
      have g : nameD (.str s) = (decide (c ∈ Vb.sg LET) && (c :: l).all nsign) := by
        show nameL (Vb.sg s) = _
        rw [e]
        show (decide (l.length < 12) && _) = _
        rw [decide_eq_true (by omega)]
        rfl
      rw [g] at q
      walk_at "rd"
      refine Vb.r_ixS (Vb.size_ok (by omega)) (by rw [e]; exact at_zero) ?_
      walk_at "rd"
      refine Vb.r_iteN (fun c3 => ?_) (fun c3 => ?_)
      · rw [decide_eq_false c3, Bool.false_and] at q
        walk_at "rd"
        exact q
      rw [decide_eq_true c3, Bool.true_and, ← e] at q
      walk_at "rd"
      refine Vb.lp_str (fun i σ H' => H' = H ∧ ((Vb.sg s).take i).all nsign = true ∧ ∃ y, σ = [some (.str s), some (.str LET), y]) ⟨rfl, rfl, _, rfl⟩ ?_ ?_
      · rintro i b σ H' hb ⟨rfl, ha, y, rfl⟩
        walk_at "rd"
        refine Vb.r_iteN (fun c4 => ?_) (fun c4 => ?_)
        · walk_at "rd"
          have f : (Vb.sg s).all nsign = false := by
            rw [List.all_eq_false]
            exact ⟨b, List.mem_of_getElem? hb, fun z => c4 (of_decide_eq_true z)⟩
          rw [f] at q
          exact q
        · walk_at "rd"
          refine ⟨rfl, ?_, _, rfl⟩
          rw [List.take_add_one, hb, List.all_append, ha]
          show (true && (nsign b && true)) = true
          rw [show nsign b = true from decide_eq_true c4]
          rfl
      · rintro σ H' ⟨rfl, ha, y, rfl⟩
        rw [List.take_length] at ha
        rw [ha] at q
        walk_at "rd"
        exact q
    | _ =>
      walk_at "rd"
      exact q
end
end K
namespace K
open PySem PySem.Spec PyProof.Rows L2

abbrev N__law_letters : List Str := ["store", "size", "letters", "k"]
theorem sc__law_letters : FnScope N__law_letters ["store", "size"] (defScope s__law_letters) := ⟨rfl, rfl, rfl, by decide +kernel, rfl, by decide +kernel, by decide +kernel⟩
section
variable {P : Program} {w : World} {K : PySem.W.Frag} {mg : Str → Option Value} {base : Heap}
/-- one-sign texts put together -/
theorem join_ones : ∀ (l : List Nat), Vb.sg (Txt.join (Str.ofString "") (l.map fun c => (⟨#[c]⟩ : Str))) = l := by
  intro l
  show TL.tl _ = l
  rw [TL.join_eq, TL.tl_join, show TL.tl (Str.ofString "") = [] from Vb.em_sg, List.map_map]
  have h : ∀ l : List Nat, TL.joinL [] (l.map ((TL.tl) ∘ fun c => (⟨#[c]⟩ : Str))) = l := by
    intro l
    induction l with
    | nil => rfl
    | cons c l ih =>
      cases l with
      | nil => rfl
      | cons d l =>
        show [c] ++ ([] ++ TL.joinL [] ((d :: l).map ((TL.tl) ∘ fun c => (⟨#[c]⟩ : Str)))) = _
        rw [ih]
        rfl
  exact h l
theorem sum_ones (l : List Nat) : ((l.map fun c => (⟨#[c]⟩ : Str)).map (·.length)).sum = l.length := by
  induction l with
  | nil => rfl
  | cons c l ih => rw [List.map_cons, List.map_cons, List.sum_cons, ih, List.length_cons]; show 1 + _ = _; omega
/-- a list of signs that is filled from the store -/
structure SgS (B : List Nat) (st D : Addr) (k : Nat) (H H' : Hp) (l : List Nat) : Prop where
  s0 : Vb.StoreAt H st
  n0 : H D = none
  f : Vb.Fr st H H'
  S : Vb.StoreAt H' st
  h : H' D = some (.lst ((l.map fun c => (⟨#[c]⟩ : Str)).map V.str))
  n : l.length = k
  a : ∀ c ∈ l, c ∈ B
theorem SgS.ne {B : List Nat} {st D : Addr} {k : Nat} {H H' : Hp} {l : List Nat} (v : SgS B st D k H H' l) : D ≠ st := v.s0.ne v.n0
theorem SgS.fr {B : List Nat} {st D : Addr} {k : Nat} {H H' H2 : Hp} {l : List Nat} (v : SgS B st D k H H' l) (f : Vb.Fr st H' H2) (s : Vb.StoreAt H2 st) : SgS B st D k H H2 l := ⟨v.s0, v.n0, v.f.trans f, s, f.k _ _ v.ne v.h, v.n, v.a⟩
theorem SgS.app {B : List Nat} {c : Nat} {st D : Addr} {k : Nat} {H H' : Hp} {l : List Nat} (v : SgS B st D k H H' l) (h : c ∈ B) : SgS B st D (k + 1) H (upd H' D (.lst ((l.map fun c => (⟨#[c]⟩ : Str)).map V.str ++ [.str ⟨#[c]⟩]))) (l ++ [c]) :=
  ⟨v.s0, v.n0, v.f.mut v.n0, v.s0.mut v.n0 v.f v.S, by rw [upd_same]; simp, by rw [List.length_append, v.n]; rfl, fun u m => by
    rcases List.mem_append.mp m with m | m
    · exact v.a u m
    · rw [List.mem_singleton.mp m]
      exact h⟩
def sp_letters (K : PySem.W.Frag) : Sp := fun vs H Q _ => ∃ (st : Addr) (n : Int), vs = [.ref st, .int n] ∧ Vb.StoreAt H st ∧ (0 ≤ n ∧ n ≤ 1000) ∧ ∀ (s : Str) (H' : Hp), (Vb.sg s).length = n.toNat → (∀ c ∈ Vb.sg s, c ∈ Vb.sg LET) → Vb.Fr st H H' → Vb.StoreAt H' st → Q (.str s) H'
theorem use_letters {st : Addr} {n : Int} {H : Hp} {Q : VK} {E : XK} (h1 : Vb.StoreAt H st) (h2 : 0 ≤ n ∧ n ≤ 1000) (h : ∀ (s : Str) (H' : Hp), (Vb.sg s).length = n.toNat → (∀ c ∈ Vb.sg s, c ∈ Vb.sg LET) → Vb.Fr st H H' → Vb.StoreAt H' st → Q (.str s) H') : sp_letters K [.ref st, .int n] H Q E := ⟨st, n, rfl, h1, h2, h⟩
theorem sg_get {s : Str} {t : Int} (h0 : 0 ≤ t) (h1 : t.toNat < (Vb.sg s).length) : ∃ c, c ∈ Vb.sg s ∧ atI (Vb.sg s) t = some c := by
  refine ⟨(Vb.sg s)[t.toNat], List.getElem_mem h1, Vb.at_sgn t.toNat (by omega) (List.getElem?_eq_getElem h1)⟩
theorem ok_letters (T : Txt K mg) : FnOk P w K mg base (L2N.CX P w) 3 T.f__law_letters T.fd__law_letters ["store", "size"] (sp_letters K) := by
  have G__law_take := ok_take (P := P) (w := w) (base := base) T
  refine Vb.okN T.d__law_letters.F sc__law_letters (fun vs H Q E h => ?_) (fun cdv A outer s H vs Q E hr h => ?_)
  · obtain ⟨a, b, rfl, _⟩ := h
    rfl
  · obtain ⟨st, n, rfl, hS, hn, q⟩ := h
    refine ⟨_, (pss_cons (ps_set (i := 2) sc__law_letters.nd rfl (by first | exact Or.inl rfl | exact Or.inr rfl) pe_str)
      (pss_one (ps_ret (Vb.pe_joinN pe_str (pe_lc (own := [("k", 3)]) (g := gName 3) (tt := tYes) rfl sc__law_letters.nd (pi_range1 rfl T.n_range (pa_cons (pv 1) pa_nil)) (blkOk_by (own := [("k", 3)]) (N := N__law_letters) (sc := defScope s__law_letters) (by decide +kernel)) (fun _ _ _ _ _ => (pg_name (i := 3) sc__law_letters.nd rfl (by first | exact Or.inl rfl | exact Or.inr rfl))) (fun _ _ _ _ _ => pts_nil) (fun _ _ _ _ _ => (pe_ix ix_str (pv 2) (pe_call G__law_take (hr.mono (by first | decide | omega)) (by rfl) T.d__law_take.g T.d__law_take.F.kp T.d__law_take.b .nil Vb.pass5 (pa_cons (pv 0) (pa_cons pe_int pa_nil))) (fun _ _ => rfl)))))))), ?_⟩
    (change (_ : L2.TS) _ ([some (.ref st), some (.int n), none, none] : L2.St) _); try dsimp only [L2.cxOf, L2H.cxH]
    have hL : (Vb.sg LET).length = 26 := by rw [Vb.sg_lit]; rfl
    walk_at "rd"
    intro D hD
    refine Vb.lcw_range (fun i H' => ∃ l, SgS (Vb.sg LET) st D i H H' l) ⟨[], hS, hD, (Vb.Fr.refl _ _).mut hD, hS.mut hD (Vb.Fr.refl _ _) hS, upd_same, rfl, fun c m => by cases m⟩ (fun x => rfl) ?_ ?_
    · rintro i H' hi ⟨l, v⟩
      walk_at "rd"
      refine use_take v.S (by decide) fun t H1 t1 t2 _ f1 S1 => ?_
      have t3 := t2 (by decide)
      obtain ⟨c, hc, hg⟩ := sg_get (s := LET) t1 (by rw [hL]; omega)
      replace v := v.fr f1 S1
      refine Vb.r_ixS (Vb.size_ok (by rw [Vb.sg_len, hL]; decide)) hg ?_
      exact ⟨_, v.h, Vb.size_lt (by rw [List.length_map, List.length_map, v.n]; omega), _, v.app hc⟩
    · rintro H' ⟨l, v⟩
      have hl := v.n
      refine Vb.r_join (Vb.sq_of v.h) (by rw [sum_ones, List.length_map, Vb.len_lit]; simp; omega) ?_
      exact q _ H' (by rw [join_ones]; exact hl) (by rw [join_ones]; exact v.a) v.f v.S
end
end K
namespace K
open PySem PySem.Spec PyProof.Rows L2

abbrev N__law_name : List Str := ["store", "signs", "size", "k"]
theorem sc__law_name : FnScope N__law_name ["store"] (defScope s__law_name) := ⟨rfl, rfl, rfl, by decide +kernel, rfl, by decide +kernel, by decide +kernel⟩
section
variable {P : Program} {w : World} {K : PySem.W.Frag} {mg : Str → Option Value} {base : Heap}
theorem let_nsign {c : Nat} (h : c ∈ Vb.sg LET) : nsign c = true := decide_eq_true (by rw [Vb.sg_app]; exact List.mem_append_left _ h)
theorem use_name_len {s : Str} (h : nameL (Vb.sg s) = true) : 1 ≤ s.length ∧ s.length ≤ 12 := by
  rw [Vb.sg_len]
  cases e : Vb.sg s with
  | nil => rw [e] at h; cases h
  | cons c l =>
    rw [e] at h
    have h' : (decide (l.length < 12) && (decide (c ∈ Vb.sg LET) && (c :: l).all nsign)) = true := h
    rw [Bool.and_eq_true, decide_eq_true_iff] at h'
    show 1 ≤ l.length + 1 ∧ l.length + 1 ≤ 12
    omega
def sp_name (K : PySem.W.Frag) : Sp := fun vs H Q _ => ∃ (st : Addr), vs = [.ref st] ∧ Vb.StoreAt H st ∧ ∀ (s : Str) (H' : Hp), nameL (Vb.sg s) = true → Vb.Fr st H H' → Vb.StoreAt H' st → Q (.str s) H'
theorem use_name {st : Addr} {H : Hp} {Q : VK} {E : XK} (h1 : Vb.StoreAt H st) (h : ∀ (s : Str) (H' : Hp), nameL (Vb.sg s) = true → Vb.Fr st H H' → Vb.StoreAt H' st → Q (.str s) H') : sp_name K [.ref st] H Q E := ⟨st, rfl, h1, h⟩
theorem ok_name (T : Txt K mg) : FnOk P w K mg base (L2N.CX P w) 4 T.f__law_name T.fd__law_name ["store"] (sp_name K) := by
  have G__law_take := ok_take (P := P) (w := w) (base := base) T
  have G__law_edge := ok_edge (P := P) (w := w) (base := base) T
  have G__law_letters := ok_letters (P := P) (w := w) (base := base) T
  refine Vb.okN T.d__law_name.F sc__law_name (fun vs H Q E h => ?_) (fun cdv A outer s H vs Q E hr h => ?_)
  · obtain ⟨a, rfl, _⟩ := h
    rfl
  · obtain ⟨st, rfl, hS, q⟩ := h
    refine ⟨_, (pss_cons (ps_set (i := 1) sc__law_name.nd rfl (by first | exact Or.inl rfl | exact Or.inr rfl) pe_str)
      (pss_cons (ps_set (i := 2) sc__law_name.nd rfl (by first | exact Or.inl rfl | exact Or.inr rfl) (pe_callS G__law_edge (hr.mono (by first | decide | omega)) (by rfl) T.d__law_edge.g T.d__law_edge.F.kp T.d__law_edge.b (fun σ => L2N.passAt (L2N.takes_of rfl rfl rfl rfl) σ) (pa_cons (pv 0) (pa_cons pe_int (pa_cons pe_int pa_nil)))))
      (pss_one (ps_ret (pe_op Vb.op_addS (pe_callS G__law_letters (hr.mono (by first | decide | omega)) (by rfl) T.d__law_letters.g T.d__law_letters.F.kp T.d__law_letters.b (fun σ => L2N.passAt (L2N.takes_of rfl rfl rfl rfl) σ) (pa_cons (pv 0) (pa_cons pe_int pa_nil))) (Vb.pe_joinN pe_str (pe_lc (own := [("k", 3)]) (g := gName 3) (tt := tYes) rfl sc__law_name.nd (pi_range1 rfl T.n_range (pa_cons (pe_op op_sub (pv 2) pe_int) pa_nil)) (blkOk_by (own := [("k", 3)]) (N := N__law_name) (sc := defScope s__law_name) (by decide +kernel)) (fun _ _ _ _ _ => (pg_name (i := 3) sc__law_name.nd rfl (by first | exact Or.inl rfl | exact Or.inr rfl))) (fun _ _ _ _ _ => pts_nil) (fun _ _ _ _ _ => (pe_ix ix_str (pv 1) (pe_call G__law_take (hr.mono (by first | decide | omega)) (by rfl) T.d__law_take.g T.d__law_take.F.kp T.d__law_take.b .nil Vb.pass5 (pa_cons (pv 0) (pa_cons pe_int pa_nil))) (fun _ _ => rfl)))))))))), ?_⟩
    (change (_ : L2.TS) _ ([some (.ref st), none, none, none] : L2.St) _); try dsimp only [L2.cxOf, L2H.cxH]
    have hL : (Vb.sg (Str.ofString "abcdefghijklmnopqrstuvwxyz0123456789")).length = 36 := by rw [Vb.sg_lit]; rfl
    have hE : Vb.sg (Str.ofString "abcdefghijklmnopqrstuvwxyz0123456789") = Vb.sg (LET ++ FIG) := by rw [Vb.sg_app, Vb.sg_lit, Vb.sg_lit, Vb.sg_lit]; rfl
    walk_at "rd"
    refine use_edge hS (by decide) fun z H1 z1 z2 _ f1 S1 => ?_
    have z3 := z2 (by decide)
    walk_at "rd"
    refine use_letters S1 (by decide) fun a H2 a1 a2 f2 S2 => ?_
    walk_at "rd"
    intro D hD
    refine Vb.lcw_range (fun i H' => ∃ l, SgS (Vb.sg (Str.ofString "abcdefghijklmnopqrstuvwxyz0123456789")) st D i H2 H' l) ⟨[], S2, hD, (Vb.Fr.refl _ _).mut hD, S2.mut hD (Vb.Fr.refl _ _) S2, upd_same, rfl, fun c m => by cases m⟩ (fun x => rfl) ?_ ?_
    · rintro i H' hi ⟨l, v⟩
      walk_at "rd"
      refine use_take v.S (by decide) fun t H3 t1 t2 _ f3 S3 => ?_
      have t3 := t2 (by decide)
      obtain ⟨c, hc, hg⟩ := sg_get (s := Str.ofString "abcdefghijklmnopqrstuvwxyz0123456789") t1 (by rw [hL]; omega)
      replace v := v.fr f3 S3
      refine Vb.r_ixS (Vb.size_ok (by rw [Vb.sg_len, hL]; decide)) hg ?_
      exact ⟨_, v.h, Vb.size_lt (by rw [List.length_map, List.length_map, v.n]; omega), _, v.app hc⟩
    · rintro H' ⟨l, v⟩
      have hl := v.n
      refine Vb.r_join (Vb.sq_of v.h) (by rw [sum_ones, List.length_map, Vb.len_lit]; simp; omega) ?_
      have hj := join_ones l
      have hjl : (Txt.join (Str.ofString "") (l.map fun c => (⟨#[c]⟩ : Str))).length = l.length := by rw [Vb.sg_len, hj]
      have al := Vb.sg_len a
      generalize Txt.join (Str.ofString "") (l.map fun c => (⟨#[c]⟩ : Str)) = b at hj hjl ⊢
      walk_at "rd"
      refine q _ H' ?_ ((f1.trans f2).trans v.f) v.S
      rw [Vb.sg_app, hj]
      obtain ⟨c, e⟩ : ∃ c, Vb.sg a = [c] := by
        have : (Vb.sg a).length = 1 := a1
        exact List.length_eq_one_iff.mp this
      have hc : c ∈ Vb.sg LET := a2 c (by rw [e]; exact List.mem_cons_self)
      rw [e]
      show (decide (l.length < 12) && (decide (c ∈ Vb.sg LET) && (c :: l).all nsign)) = true
      rw [decide_eq_true (show l.length < 12 by omega), decide_eq_true hc, List.all_cons, let_nsign hc]
      show (true && (true && (true && l.all nsign))) = true
      rw [show l.all nsign = true from List.all_eq_true.mpr fun d m => decide_eq_true (hE ▸ v.a d m)]
      rfl
end
end K
namespace K
open PySem PySem.Spec PyProof.Rows L2

abbrev N__law_bad_name : List Str := ["store", "name", "way"]
theorem sc__law_bad_name : FnScope N__law_bad_name ["store"] (defScope s__law_bad_name) := ⟨rfl, rfl, rfl, by decide +kernel, rfl, by decide +kernel, by decide +kernel⟩
section
variable {P : Program} {w : World} {K : PySem.W.Frag} {mg : Str → Option Value} {base : Heap}
def FlatD (d : PyData) : Prop := StrOk d ∧ Vb.DOk 4 d
theorem flat_str {s : Str} (h : s.length ≤ 1000000) : FlatD (.str s) := ⟨fun t e => by cases e; exact h, trivial⟩
def sp_anyval (K : PySem.W.Frag) : Sp := fun vs H Q _ => ∃ (st : Addr), vs = [.ref st] ∧ Vb.StoreAt H st ∧ ∀ (v : V) (d : PyData) (H' : Hp), FlatD d → Vb.Fr st H H' → Vb.StoreAt H' st → Dp K (Vb.offs [st] H') v d → Q v H'
theorem use_anyval {st : Addr} {H : Hp} {Q : VK} {E : XK} (h1 : Vb.StoreAt H st) (h : ∀ (v : V) (d : PyData) (H' : Hp), FlatD d → Vb.Fr st H H' → Vb.StoreAt H' st → Dp K (Vb.offs [st] H') v d → Q v H') : sp_anyval K [.ref st] H Q E := ⟨st, rfl, h1, h⟩
theorem ok_badname (T : Txt K mg) : FnOk P w K mg base (L2N.CX P w) 5 T.f__law_bad_name T.fd__law_bad_name ["store"] (sp_anyval K) := by
  have G__law_take := ok_take (P := P) (w := w) (base := base) T
  have G__law_name := ok_name (P := P) (w := w) (base := base) T
  have G__law_pick := ok_pick (P := P) (w := w) (base := base) T
  refine Vb.okN T.d__law_bad_name.F sc__law_bad_name (fun vs H Q E h => ?_) (fun cdv A outer s H vs Q E hr h => ?_)
  · obtain ⟨a, rfl, _⟩ := h
    rfl
  · obtain ⟨st, rfl, hS, q⟩ := h
    refine ⟨_, (pss_cons (ps_set (i := 1) sc__law_bad_name.nd rfl (by first | exact Or.inl rfl | exact Or.inr rfl) (pe_callS G__law_name (hr.mono (by first | decide | omega)) (by rfl) T.d__law_name.g T.d__law_name.F.kp T.d__law_name.b (fun σ => L2N.passAt (L2N.takes_of rfl rfl rfl rfl) σ) (pa_cons (pv 0) pa_nil)))
      (pss_cons (ps_set (i := 2) sc__law_bad_name.nd rfl (by first | exact Or.inl rfl | exact Or.inr rfl) (pe_callS G__law_take (hr.mono (by first | decide | omega)) (by rfl) T.d__law_take.g T.d__law_take.F.kp T.d__law_take.b (fun σ => L2N.passAt (L2N.takes_of rfl rfl rfl rfl) σ) (pa_cons (pv 0) (pa_cons pe_int pa_nil))))
      (pss_cons (ps_if (pt_cmpR op_eq (pv 2) pe_int (nomark _)) (pss_one (ps_ret pe_str)) pss_nil)
      (pss_cons (ps_if (pt_cmpR op_eq (pv 2) pe_int (nomark _)) (pss_one (ps_ret (pe_slice sl_str (pe_op Vb.op_addS (pv 1) pe_str) po_none (po_some pe_int)))) pss_nil)
      (pss_cons (ps_if (pt_cmpR op_eq (pv 2) pe_int (nomark _)) (pss_one (ps_ret (pe_op Vb.op_addS pe_str (pe_slice sl_str (pv 1) (po_some pe_int) po_none)))) pss_nil)
      (pss_cons (ps_if (pt_cmpR op_eq (pv 2) pe_int (nomark _)) (pss_one (ps_ret (pe_op Vb.op_addS (pe_slice sl_str (pv 1) po_none (po_some pe_int)) pe_str))) pss_nil)
      (pss_cons (ps_if (pt_cmpR op_eq (pv 2) pe_int (nomark _)) (pss_one (ps_ret (pe_op Vb.op_addS (pe_slice sl_str (pv 1) po_none (po_some pe_int)) (pe_callS G__law_pick (hr.mono (by first | decide | omega)) (by rfl) T.d__law_pick.g T.d__law_pick.F.kp T.d__law_pick.b (fun σ => L2N.passAt (L2N.takes_of rfl rfl rfl rfl) σ) (pa_cons (pv 0) (pa_cons (pe_lst (pa_cons pe_str (pa_cons pe_str (pa_cons pe_str (pa_cons pe_str (pa_cons pe_str (pa_cons pe_str pa_nil))))))) pa_nil)))))) pss_nil)
      (pss_cons (ps_if (pt_cmpR op_eq (pv 2) pe_int (nomark _)) (pss_one (ps_ret (pe_op Vb.op_addS pe_str (pe_slice sl_str (pv 1) po_none (po_some pe_int))))) pss_nil)
      (pss_cons (ps_if (pt_cmpR op_eq (pv 2) pe_int (nomark _)) (pss_one (ps_ret (pe_op Vb.op_addS (pe_slice sl_str (pv 1) po_none (po_some pe_int)) pe_str))) pss_nil)
      (pss_cons (ps_if (pt_cmpR op_eq (pv 2) pe_int (nomark _)) (pss_one (ps_ret (pe_op Vb.op_addS (pe_slice sl_str (pv 1) po_none (po_some pe_int)) pe_str))) pss_nil)
      (pss_one (ps_ret (pe_callS G__law_pick (hr.mono (by first | decide | omega)) (by rfl) T.d__law_pick.g T.d__law_pick.F.kp T.d__law_pick.b (fun σ => L2N.passAt (L2N.takes_of rfl rfl rfl rfl) σ) (pa_cons (pv 0) (pa_cons (pe_lst (pa_cons pe_non (pa_cons pe_bl (pa_cons pe_int (pa_cons (pe_tup (pa_cons (pv 1) pa_nil)) (pa_cons (pe_tup pa_nil) pa_nil)))))) pa_nil))))))))))))))), ?_⟩
    (change (_ : L2.TS) _ ([some (.ref st), none, none] : L2.St) _); try dsimp only [L2.cxOf, L2H.cxH]
    walk_at "rd"
    refine use_name hS fun s H1 hs f1 S1 => ?_
    obtain ⟨l1, l2⟩ := use_name_len hs
    have d1 := Vb.cut_len (s ++ Str.ofString "abcdefghijklm") none (some 13)
    have d2 := Vb.cut_len s (some 1) none
    have d3 := Vb.cut_len s none (some 11)
    have qs : ∀ (z : Str) (H' : Hp), z.length ≤ 100 → Vb.Fr st H H' → Vb.StoreAt H' st → Q (.str z) H' := fun z H' h f S => q _ (.str z) H' (flat_str (by omega)) f S (.str z)
    walk_at "rd"
    refine use_take S1 (by decide) fun way H2 _ _ _ f2 S2 => ?_
    have F2 := f1.trans f2
    walk_at "rd"
    refine Vb.r_ite (fun c => ?_) (fun c => ?_)
    · walk_at "rd"
      exact qs _ _ (by walk_at "ln") F2 S2
    walk_at "rd"
    refine Vb.r_ite (fun c => ?_) (fun c => ?_)
    · walk_at "rd"
      exact qs _ _ (by walk_at "ln") F2 S2
    walk_at "rd"
    refine Vb.r_ite (fun c => ?_) (fun c => ?_)
    · walk_at "rd"
      exact qs _ _ (by walk_at "ln") F2 S2
    walk_at "rd"
    refine Vb.r_ite (fun c => ?_) (fun c => ?_)
    · walk_at "rd"
      exact qs _ _ (by walk_at "ln") F2 S2
    walk_at "rd"
    refine Vb.r_ite (fun c => ?_) (fun c => ?_)
    · walk_at "rd"
      refine ⟨Vb.size_ok (by show 6 ≤ 16777216; decide), fun l nl => ?_⟩
      have el := Vb.same_new (o := .lst [.str (Str.ofString "_"), .str (Str.ofString "-"), .str (Str.ofString "."), .str (Str.ofString ":"), .str (Str.ofString "@"), .str (Str.ofString "~")]) nl
      walk_at "rd"
      refine use_pick [.str (Str.ofString "_"), .str (Str.ofString "-"), .str (Str.ofString "."), .str (Str.ofString ":"), .str (Str.ofString "@"), .str (Str.ofString "~")] (S2.same el) (S2.ne nl) (Vb.sq_of upd_same) (by show 6 < 1000000; decide) (by simp) fun i v H3 hi f3 S3 => ?_
      obtain ⟨z, rfl, hz⟩ : ∃ z, v = .str z ∧ z.length ≤ 1 := by
        have m := List.mem_of_getElem? hi
        simp only [List.mem_cons, List.not_mem_nil, or_false] at m
        rcases m with rfl | rfl | rfl | rfl | rfl | rfl <;> exact ⟨_, rfl, by walk_at "ln"⟩
      walk_at "rd"
      exact qs _ _ (by walk_at "ln") (F2.trans ((Vb.Fr.of el).trans f3)) S3
    walk_at "rd"
    refine Vb.r_ite (fun c => ?_) (fun c => ?_)
    · walk_at "rd"
      exact qs _ _ (by walk_at "ln") F2 S2
    walk_at "rd"
    refine Vb.r_ite (fun c => ?_) (fun c => ?_)
    · walk_at "rd"
      exact qs _ _ (by walk_at "ln") F2 S2
    walk_at "rd"
    refine Vb.r_ite (fun c => ?_) (fun c => ?_)
    · walk_at "rd"
      exact qs _ _ (by walk_at "ln") F2 S2
    walk_at "rd"
    refine ⟨Vb.size_ok (by show 1 ≤ 16777216; decide), fun p hp => ?_⟩
    walk_at "rd"
    refine ⟨Vb.size_ok (by decide), fun r hr => ?_⟩
    walk_at "rd"
    refine ⟨Vb.size_ok (by show 5 ≤ 16777216; decide), fun l hl => ?_⟩
    walk_at "rd"
    have e1 := Vb.same_new (o := .tup [.str s]) hp
    have e2 := Vb.same_new (o := .tup []) hr
    have e3 := Vb.same_new (o := .lst [.non, .bl true, .int 7, .ref p, .ref r]) hl
    have e := (e1.trans e2).trans e3
    have n1 := S2.ne hp
    have n2 := (S2.same e1).ne hr
    refine use_pick [.non, .bl true, .int 7, .ref p, .ref r] (S2.same e) ((S2.same (e1.trans e2)).ne hl) (Vb.sq_of upd_same) (by show 5 < 1000000; decide) (by simp) fun i v H' hv f S => ?_
    have hp' : H' p = some (.tup [.str s]) := f.k _ _ n1 (e3 _ _ (e2 _ _ upd_same))
    have hr' : H' r = some (.tup []) := f.k _ _ n2 (e3 _ _ upd_same)
    have f' : Vb.Fr st H H' := F2.trans ((Vb.Fr.of e).trans f)
    have m1 : p ∉ [st] := fun m => n1 (List.mem_singleton.mp m)
    have m2 : r ∉ [st] := fun m => n2 (List.mem_singleton.mp m)
    have m := List.mem_of_getElem? hv
    simp only [List.mem_cons, List.not_mem_nil, or_false] at m
    rcases m with rfl | rfl | rfl | rfl | rfl
    · exact q _ .none _ ⟨fun s e => (by cases e), trivial⟩ f' S .non
    · exact q _ (.bool true) _ ⟨fun s e => (by cases e), trivial⟩ f' S (.bl _)
    · exact q _ (.int 7) _ ⟨fun s e => (by cases e), trivial⟩ f' S (.int _)
    · exact q _ (.tuple [.str s]) _ ⟨fun s e => (by cases e), by simp [Vb.DOk]⟩ f' S (Vb.dp_tup (Vb.offs_of m1 hp') (.cons (.str _) .nil))
    · exact q _ (.tuple []) _ ⟨fun s e => (by cases e), by simp [Vb.DOk]⟩ f' S (Vb.dp_tup (Vb.offs_of m2 hr') .nil)
end
end K
namespace K
open PySem PySem.Spec PyProof.Rows L2

abbrev N__law_text : List Str := ["store", "size", "signs", "often", "text", "k"]
theorem sc__law_text : FnScope N__law_text ["store", "size"] (defScope s__law_text) := ⟨rfl, rfl, rfl, by decide +kernel, rfl, by decide +kernel, by decide +kernel⟩
section
variable {P : Program} {w : World} {K : PySem.W.Frag} {mg : Str → Option Value} {base : Heap}
def sp_text (K : PySem.W.Frag) : Sp := fun vs H Q _ => ∃ (st : Addr) (n : Int), vs = [.ref st, .int n] ∧ Vb.StoreAt H st ∧ (0 ≤ n ∧ n ≤ 1000) ∧ ∀ (s : Str) (H' : Hp), s.length = n.toNat → Vb.Fr st H H' → Vb.StoreAt H' st → Q (.str s) H'
theorem use_text {st : Addr} {n : Int} {H : Hp} {Q : VK} {E : XK} (h1 : Vb.StoreAt H st) (h2 : 0 ≤ n ∧ n ≤ 1000) (h : ∀ (s : Str) (H' : Hp), s.length = n.toNat → Vb.Fr st H H' → Vb.StoreAt H' st → Q (.str s) H') : sp_text K [.ref st, .int n] H Q E := ⟨st, n, rfl, h1, h2, h⟩
theorem ok_text (T : Txt K mg) : FnOk P w K mg base (L2N.CX P w) 3 T.f__law_text T.fd__law_text ["store", "size"] (sp_text K) := by
  have G__law_take := ok_take (P := P) (w := w) (base := base) T
  refine Vb.okN T.d__law_text.F sc__law_text (fun vs H Q E h => ?_) (fun cdv A outer s H vs Q E hr h => ?_)
  · obtain ⟨a, b, rfl, _⟩ := h
    rfl
  · obtain ⟨st, n, rfl, hS, hn, q⟩ := h
    refine ⟨_, (pss_cons (ps_set (i := 2) sc__law_text.nd rfl (by first | exact Or.inl rfl | exact Or.inr rfl) pe_str)
      (pss_cons (ps_set (i := 2) sc__law_text.nd rfl (by first | exact Or.inl rfl | exact Or.inr rfl) (pe_op Vb.op_addS (pv 2) pe_str))
      (pss_cons (ps_set (i := 3) sc__law_text.nd rfl (by first | exact Or.inl rfl | exact Or.inr rfl) pe_str)
      (pss_cons (ps_set (i := 4) sc__law_text.nd rfl (by first | exact Or.inl rfl | exact Or.inr rfl) pe_str)
      (pss_cons (ps_for (L2.passes_of rfl) rfl (pi_range1 rfl T.n_range (pa_cons (pv 1) pa_nil)) (pg_name (i := 5) sc__law_text.nd rfl (by first | exact Or.inl rfl | exact Or.inr rfl))
        (pss_one (ps_if (pt_cmpR op_eq (pe_callS G__law_take (hr.mono (by first | decide | omega)) (by rfl) T.d__law_take.g T.d__law_take.F.kp T.d__law_take.b (fun σ => L2N.passAt (L2N.takes_of rfl rfl rfl rfl) σ) (pa_cons (pv 0) (pa_cons pe_int pa_nil))) pe_int (nomark _)) (pss_one (ps_set (i := 4) sc__law_text.nd rfl (by first | exact Or.inl rfl | exact Or.inr rfl) (pe_op Vb.op_addS (pv 4) (pe_ix ix_str (pv 3) (pe_callS G__law_take (hr.mono (by first | decide | omega)) (by rfl) T.d__law_take.g T.d__law_take.F.kp T.d__law_take.b (fun σ => L2N.passAt (L2N.takes_of rfl rfl rfl rfl) σ) (pa_cons (pv 0) (pa_cons (pe_callB Vb.call_lenS (by rfl) T.n_len (by decide +kernel) (pa_cons (pv 3) pa_nil)) pa_nil))) (fun _ _ => rfl))))) (pss_one (ps_set (i := 4) sc__law_text.nd rfl (by first | exact Or.inl rfl | exact Or.inr rfl) (pe_op Vb.op_addS (pv 4) (pe_ix ix_str (pv 2) (pe_callS G__law_take (hr.mono (by first | decide | omega)) (by rfl) T.d__law_take.g T.d__law_take.F.kp T.d__law_take.b (fun σ => L2N.passAt (L2N.takes_of rfl rfl rfl rfl) σ) (pa_cons (pv 0) (pa_cons (pe_callB Vb.call_lenS (by rfl) T.n_len (by decide +kernel) (pa_cons (pv 2) pa_nil)) pa_nil))) (fun _ _ => rfl))))))))
      (pss_one (ps_ret (pv 4)))))))), ?_⟩
    (change (_ : L2.TS) _ ([some (.ref st), some (.int n), none, none, none, none] : L2.St) _); try dsimp only [L2.cxOf, L2H.cxH]
    walk_at "rd"
    have h1 : (Str.ofString " !\"#$&'()*+,-./0123456789:;<=>?@ABCDEFGHIJKLMNOPQRSTUVWXYZ[\\]^_" ++ Str.ofString "`abcdefghijklmnopqrstuvwxyz{|}~\n").length = 95 := by simp only [Vb.len_app, Vb.len_lit, String.reduceToList, List.length_cons, List.length_nil]
    have h2 : (Str.ofString " \n0.7 ").length = 6 := by simp only [Vb.len_app, Vb.len_lit, String.reduceToList, List.length_cons, List.length_nil]
    generalize Str.ofString " !\"#$&'()*+,-./0123456789:;<=>?@ABCDEFGHIJKLMNOPQRSTUVWXYZ[\\]^_" ++ Str.ofString "`abcdefghijklmnopqrstuvwxyz{|}~\n" = A at h1 ⊢
    generalize Str.ofString " \n0.7 " = B at h2 ⊢
    have g1 := Vb.sg_len A
    have g2 := Vb.sg_len B
    refine Vb.lp_range (fun i σ H' => ∃ (s : Str) (y : Option V), s.length = i ∧ Vb.Fr st H H' ∧ Vb.StoreAt H' st ∧ σ = [some (.ref st), some (.int n), some (.str A), some (.str B), some (.str s), y]) ⟨Str.ofString "", _, by rw [Vb.len_lit]; rfl, Vb.Fr.refl _ _, hS, rfl⟩ ?_ ?_
    · rintro i σ H' hi ⟨s, y, hs, f, S, rfl⟩
      walk_at "rd"
      refine use_take S (by decide) fun t H1 _ _ _ f1 S1 => ?_
      walk_at "rd"
      refine Vb.r_ite (fun c => ?_) (fun c => ?_)
      · walk_at "rd"
        refine use_take S1 (by omega) fun u H2 u1 u2 _ f2 S2 => ?_
        obtain ⟨b, _, hb⟩ := sg_get (s := B) u1 (by have := u2 (by omega); omega)
        refine Vb.r_ixS (Vb.size_ok (by omega)) hb ?_
        walk_at "rd"
        exact ⟨_, _, by rw [Vb.len_app, Vb.len_one]; omega, f.trans (f1.trans f2), S2, rfl⟩
      · walk_at "rd"
        refine use_take S1 (by omega) fun u H2 u1 u2 _ f2 S2 => ?_
        obtain ⟨b, _, hb⟩ := sg_get (s := A) u1 (by have := u2 (by omega); omega)
        refine Vb.r_ixS (Vb.size_ok (by omega)) hb ?_
        walk_at "rd"
        exact ⟨_, _, by rw [Vb.len_app, Vb.len_one]; omega, f.trans (f1.trans f2), S2, rfl⟩
    · rintro σ H' ⟨s, y, hs, f, S, rfl⟩
      walk_at "rd"
      exact q s H' hs f S
end
end K
namespace K
open PySem PySem.Spec PyProof.Rows L2

abbrev N__law_word : List Str := ["store", "size", "word", "sign"]
theorem sc__law_word : FnScope N__law_word ["store", "size"] (defScope s__law_word) := ⟨rfl, rfl, rfl, by decide +kernel, rfl, by decide +kernel, by decide +kernel⟩
section
variable {P : Program} {w : World} {K : PySem.W.Frag} {mg : Str → Option Value} {base : Heap}
def sp_word (K : PySem.W.Frag) : Sp := fun vs H Q _ => ∃ (st : Addr) (n : Int), vs = [.ref st, .int n] ∧ Vb.StoreAt H st ∧ (0 ≤ n ∧ n ≤ 1000) ∧ ∀ (s : Str) (H' : Hp), s.length ≤ n.toNat + 2 → Vb.Fr st H H' → Vb.StoreAt H' st → Q (.str s) H'
theorem use_word {st : Addr} {n : Int} {H : Hp} {Q : VK} {E : XK} (h1 : Vb.StoreAt H st) (h2 : 0 ≤ n ∧ n ≤ 1000) (h : ∀ (s : Str) (H' : Hp), s.length ≤ n.toNat + 2 → Vb.Fr st H H' → Vb.StoreAt H' st → Q (.str s) H') : sp_word K [.ref st, .int n] H Q E := ⟨st, n, rfl, h1, h2, h⟩
theorem ok_word (T : Txt K mg) : FnOk P w K mg base (L2N.CX P w) 4 T.f__law_word T.fd__law_word ["store", "size"] (sp_word K) := by
  have G__law_text := ok_text (P := P) (w := w) (base := base) T
  have G__law_pick := ok_pick (P := P) (w := w) (base := base) T
  refine Vb.okN T.d__law_word.F sc__law_word (fun vs H Q E h => ?_) (fun cdv A outer s H vs Q E hr h => ?_)
  · obtain ⟨a, b, rfl, _⟩ := h
    rfl
  · obtain ⟨st, n, rfl, hS, hn, q⟩ := h
    refine ⟨_, (pss_cons (ps_set (i := 2) sc__law_word.nd rfl (by first | exact Or.inl rfl | exact Or.inr rfl) pe_str)
      (pss_cons (ps_for (L2.passes_of rfl) rfl (pi_str (pe_callS G__law_text (hr.mono (by first | decide | omega)) (by rfl) T.d__law_text.g T.d__law_text.F.kp T.d__law_text.b (fun σ => L2N.passAt (L2N.takes_of rfl rfl rfl rfl) σ) (pa_cons (pv 0) (pa_cons (pv 1) pa_nil)))) (pg_name (i := 3) sc__law_word.nd rfl (by first | exact Or.inl rfl | exact Or.inr rfl))
        (pss_one (ps_if (PW.pt (pw_and (pt_cmpR op_ne (pv 3) pe_str (nomark _)) (pw_and1 (pt_cmpR op_ne (pv 3) pe_str (nomark _))))) (pss_one (ps_set (i := 2) sc__law_word.nd rfl (by first | exact Or.inl rfl | exact Or.inr rfl) (pe_op Vb.op_addS (pv 2) (pv 3)))) pss_nil)))
      (pss_one (ps_ret (pe_op Vb.op_addS (pv 2) (pe_callS G__law_pick (hr.mono (by first | decide | omega)) (by rfl) T.d__law_pick.g T.d__law_pick.F.kp T.d__law_pick.b (fun σ => L2N.passAt (L2N.takes_of rfl rfl rfl rfl) σ) (pa_cons (pv 0) (pa_cons (pe_lst (pa_cons pe_str (pa_cons pe_str (pa_cons pe_str (pa_cons pe_str (pa_cons pe_str (pa_cons pe_str pa_nil))))))) pa_nil)))))))), ?_⟩
    (change (_ : L2.TS) _ ([some (.ref st), some (.int n), none, none] : L2.St) _); try dsimp only [L2.cxOf, L2H.cxH]
    walk_at "rd"
    refine use_text hS hn fun x H1 hx f1 S1 => ?_
    have hx2 := Vb.sg_len x
    walk_at "rd"
    refine Vb.lp_str (fun i σ H' => H' = H1 ∧ i ≤ (Vb.sg x).length ∧ ∃ (s : Str) (y : Option V), s.length ≤ i ∧ σ = [some (.ref st), some (.int n), some (.str s), y]) ⟨rfl, Nat.zero_le _, Str.ofString "", _, by walk_at "ln", rfl⟩ ?_ ?_
    · rintro i b σ H' hb ⟨rfl, _, s, y, hs, rfl⟩
      have hi : i < (Vb.sg x).length := (List.getElem?_eq_some_iff.mp hb).1
      walk_at "rd"
      refine Vb.r_iteN (fun c => ?_) (fun c => ?_)
      · walk_at "rd"
        refine Vb.r_iteN (fun c => ?_) (fun c => ?_)
        · walk_at "rd"
          exact ⟨rfl, hi, _, _, by rw [Vb.len_app, Vb.len_one]; omega, rfl⟩
        · walk_at "rd"
          exact ⟨rfl, hi, s, _, by omega, rfl⟩
      · walk_at "rd"
        exact ⟨rfl, hi, s, _, by omega, rfl⟩
    · rintro σ H' ⟨rfl, _, s, y, hs, rfl⟩
      walk_at "rd"
      refine ⟨Vb.size_ok (by show 6 ≤ 16777216; decide), fun l nl => ?_⟩
      have el := Vb.same_new (o := .lst [.str (Str.ofString "a"), .str (Str.ofString "7"), .str (Str.ofString "~"), .str (Str.ofString "!"), .str (Str.ofString "."), .str (Str.ofString "=>")]) nl
      walk_at "rd"
      refine use_pick [.str (Str.ofString "a"), .str (Str.ofString "7"), .str (Str.ofString "~"), .str (Str.ofString "!"), .str (Str.ofString "."), .str (Str.ofString "=>")] (S1.same el) (S1.ne nl) (Vb.sq_of upd_same) (by show 6 < 1000000; decide) (by simp) fun i v H3 hi f3 S3 => ?_
      obtain ⟨z, rfl, hz⟩ : ∃ z, v = .str z ∧ z.length ≤ 2 := by
        have m := List.mem_of_getElem? hi
        simp only [List.mem_cons, List.not_mem_nil, or_false] at m
        rcases m with rfl | rfl | rfl | rfl | rfl | rfl <;> exact ⟨_, rfl, by walk_at "ln"⟩
      walk_at "rd"
      exact q _ H3 (by rw [Vb.len_app]; omega) (f1.trans ((Vb.Fr.of el).trans f3)) S3
end
end K
namespace K
open PySem PySem.Spec PyProof.Rows L2
abbrev N__law_joined : List Str := ["store", "way", "many", "k"]
theorem sc__law_joined : FnScope N__law_joined ["store"] (defScope s__law_joined) := ⟨rfl, rfl, rfl, by decide +kernel, rfl, by decide +kernel, by decide +kernel⟩
section
variable {P : Program} {w : World} {K : PySem.W.Frag} {mg : Str → Option Value} {base : Heap}
theorem join_len (sep : Str) : ∀ (ys : List Str), (Txt.join sep ys).length ≤ (ys.map (·.length)).sum + ys.length * sep.length := by
  intro ys
  rw [Vb.sg_len, show Vb.sg (Txt.join sep ys) = TL.joinL (Vb.sg sep) (ys.map Vb.sg) from by show TL.tl _ = _; rw [TL.join_eq, TL.tl_join]]
  have h : ∀ ys : List Str, (TL.joinL (Vb.sg sep) (ys.map Vb.sg)).length ≤ (ys.map (·.length)).sum + ys.length * sep.length := by
    intro ys
    induction ys with
    | nil => exact Nat.zero_le _
    | cons y ys ih =>
      have e := Vb.sg_len y
      have e2 := Vb.sg_len sep
      rw [List.map_cons, List.map_cons, List.sum_cons, List.length_cons, Nat.add_mul, Nat.one_mul]
      cases ys with
      | nil =>
        show (Vb.sg y).length ≤ _
        omega
      | cons z ys =>
        show (Vb.sg y ++ (Vb.sg sep ++ TL.joinL (Vb.sg sep) ((z :: ys).map Vb.sg))).length ≤ _
        rw [List.length_append, List.length_append]
        omega
  exact h ys
theorem sum_le {n : Nat} : ∀ (ys : List Str), (∀ y ∈ ys, y.length ≤ n) → (ys.map (·.length)).sum ≤ ys.length * n := by
  intro ys h
  induction ys with
  | nil => exact Nat.zero_le _
  | cons y ys ih =>
    have := h y List.mem_cons_self
    have := ih fun z m => h z (List.mem_cons_of_mem _ m)
    rw [List.map_cons, List.sum_cons, List.length_cons, Nat.add_mul, Nat.one_mul]
    omega
/-- a list of texts that is filled from the store -/
structure StS (n : Nat) (st D : Addr) (k : Nat) (H H' : Hp) (ys : List Str) : Prop where
  s0 : Vb.StoreAt H st
  n0 : H D = none
  f : Vb.Fr st H H'
  S : Vb.StoreAt H' st
  h : H' D = some (.lst (ys.map V.str))
  c : ys.length = k
  a : ∀ y ∈ ys, y.length ≤ n
theorem StS.ne {n : Nat} {st D : Addr} {k : Nat} {H H' : Hp} {ys : List Str} (v : StS n st D k H H' ys) : D ≠ st := v.s0.ne v.n0
theorem StS.fr {n : Nat} {st D : Addr} {k : Nat} {H H' H2 : Hp} {ys : List Str} (v : StS n st D k H H' ys) (f : Vb.Fr st H' H2) (s : Vb.StoreAt H2 st) : StS n st D k H H2 ys := ⟨v.s0, v.n0, v.f.trans f, s, f.k _ _ v.ne v.h, v.c, v.a⟩
theorem StS.app {n : Nat} {x : Str} {st D : Addr} {k : Nat} {H H' : Hp} {ys : List Str} (v : StS n st D k H H' ys) (h : x.length ≤ n) : StS n st D (k + 1) H (upd H' D (.lst (ys.map V.str ++ [.str x]))) (ys ++ [x]) :=
  ⟨v.s0, v.n0, v.f.mut v.n0, v.s0.mut v.n0 v.f v.S, by rw [upd_same]; simp, by rw [List.length_append, v.c]; rfl, fun u m => by
    rcases List.mem_append.mp m with m | m
    · exact v.a u m
    · rw [List.mem_singleton.mp m]
      exact h⟩
theorem StS.nil {n : Nat} {st D : Addr} {H : Hp} (s : Vb.StoreAt H st) (h : H D = none) : StS n st D 0 H (upd H D (.lst [])) [] := ⟨s, h, (Vb.Fr.refl _ _).mut h, s.mut h (Vb.Fr.refl _ _) s, upd_same, rfl, fun c m => by cases m⟩
theorem StS.join {n k : Nat} {st D : Addr} {H H' : Hp} {ys : List Str} {sep : Str} (v : StS n st D k H H' ys) (h : k * n + k * sep.length ≤ 16777216) : (ys.map (·.length)).sum + ys.length * sep.length ≤ 16777216 := by
  have := sum_le ys v.a
  rw [v.c] at this ⊢
  omega
theorem StS.len {n k : Nat} {st D : Addr} {H H' : Hp} {ys : List Str} {sep : Str} (v : StS n st D k H H' ys) : (Txt.join sep ys).length ≤ k * n + k * sep.length := by
  have h1 := sum_le ys v.a
  have h2 := join_len sep ys
  rw [v.c] at h1 h2
  omega
def sp_txt (K : PySem.W.Frag) (n : Nat) : Sp := fun vs H Q _ => ∃ (st : Addr), vs = [.ref st] ∧ Vb.StoreAt H st ∧ ∀ (s : Str) (H' : Hp), s.length ≤ n → Vb.Fr st H H' → Vb.StoreAt H' st → Q (.str s) H'
theorem use_txt {n : Nat} {st : Addr} {H : Hp} {Q : VK} {E : XK} (h1 : Vb.StoreAt H st) (h : ∀ (s : Str) (H' : Hp), s.length ≤ n → Vb.Fr st H H' → Vb.StoreAt H' st → Q (.str s) H') : sp_txt K n [.ref st] H Q E := ⟨st, rfl, h1, h⟩
theorem ok_joined (T : Txt K mg) : FnOk P w K mg base (L2N.CX P w) 5 T.f__law_joined T.fd__law_joined ["store"] (sp_txt K 40000) := by
  have G__law_word := ok_word (P := P) (w := w) (base := base) T
  have G__law_edge := ok_edge (P := P) (w := w) (base := base) T
  have G__law_take := ok_take (P := P) (w := w) (base := base) T
  refine Vb.okN T.d__law_joined.F sc__law_joined (fun vs H Q E h => ?_) (fun cdv A outer s H vs Q E hr h => ?_)
  · obtain ⟨a, rfl, _⟩ := h
    rfl
  · obtain ⟨st, rfl, hS, q⟩ := h
    refine ⟨_, (pss_cons (ps_set (i := 1) sc__law_joined.nd rfl (by first | exact Or.inl rfl | exact Or.inr rfl) (pe_callS G__law_take (hr.mono (by first | decide | omega)) (by rfl) T.d__law_take.g T.d__law_take.F.kp T.d__law_take.b (fun σ => L2N.passAt (L2N.takes_of rfl rfl rfl rfl) σ) (pa_cons (pv 0) (pa_cons pe_int pa_nil))))
      (pss_cons (ps_if (pt_cmpR op_eq (pv 1) pe_int (nomark _)) (pss_one (ps_ret (Vb.pe_joinN pe_str (pe_lc (own := [("k", 3)]) (g := gName 3) (tt := tYes) rfl sc__law_joined.nd (pi_range1 rfl T.n_range (pa_cons pe_int pa_nil)) (blkOk_by (own := [("k", 3)]) (N := N__law_joined) (sc := defScope s__law_joined) (by decide +kernel)) (fun _ _ _ _ _ => (pg_name (i := 3) sc__law_joined.nd rfl (by first | exact Or.inl rfl | exact Or.inr rfl))) (fun _ _ _ _ _ => pts_nil) (fun _ _ _ _ _ => (pe_op Vb.op_mulS (pe_call G__law_word (hr.mono (by first | decide | omega)) (by rfl) T.d__law_word.g T.d__law_word.F.kp T.d__law_word.b .nil Vb.pass5 (pa_cons (pv 0) (pa_cons pe_int pa_nil))) pe_int)))))) pss_nil)
      (pss_cons (ps_set (i := 2) sc__law_joined.nd rfl (by first | exact Or.inl rfl | exact Or.inr rfl) (pe_callS G__law_edge (hr.mono (by first | decide | omega)) (by rfl) T.d__law_edge.g T.d__law_edge.F.kp T.d__law_edge.b (fun σ => L2N.passAt (L2N.takes_of rfl rfl rfl rfl) σ) (pa_cons (pv 0) (pa_cons pe_int (pa_cons (pe_ix ix_list (pe_lst (pa_cons pe_int (pa_cons pe_int pa_nil))) (pe_callTy Vb.call_int (by rfl) T.n_int (by decide +kernel) (pa_cons (pe_cmpR op_lt (pv 1) pe_int (nomark _)) pa_nil)) (fun _ _ => rfl)) pa_nil)))))
      (pss_cons (ps_if (pt_cmpR op_eq (pv 1) pe_int (nomark _)) (pss_one (ps_ret (Vb.pe_joinN pe_str (pe_op op_rep (pe_lst (pa_cons (pe_callS G__law_word (hr.mono (by first | decide | omega)) (by rfl) T.d__law_word.g T.d__law_word.F.kp T.d__law_word.b (fun σ => L2N.passAt (L2N.takes_of rfl rfl rfl rfl) σ) (pa_cons (pv 0) (pa_cons pe_int pa_nil))) pa_nil)) (pv 2))))) pss_nil)
      (pss_one (ps_ret (Vb.pe_joinN pe_str (pe_lc (own := [("k", 3)]) (g := gName 3) (tt := tYes) rfl sc__law_joined.nd (pi_range1 rfl T.n_range (pa_cons (pv 2) pa_nil)) (blkOk_by (own := [("k", 3)]) (N := N__law_joined) (sc := defScope s__law_joined) (by decide +kernel)) (fun _ _ _ _ _ => (pg_name (i := 3) sc__law_joined.nd rfl (by first | exact Or.inl rfl | exact Or.inr rfl))) (fun _ _ _ _ _ => pts_nil) (fun _ _ _ _ _ => (pe_call G__law_word (hr.mono (by first | decide | omega)) (by rfl) T.d__law_word.g T.d__law_word.F.kp T.d__law_word.b .nil Vb.pass5 (pa_cons (pv 0) (pa_cons (pe_op op_add pe_int (pe_call G__law_take (hr.mono (by first | decide | omega)) (by rfl) T.d__law_take.g T.d__law_take.F.kp T.d__law_take.b .nil Vb.pass5 (pa_cons (pv 0) (pa_cons pe_int pa_nil)))) pa_nil)))))))))))), ?_⟩
    (change (_ : L2.TS) _ ([some (.ref st), none, none, none] : L2.St) _); try dsimp only [L2.cxOf, L2H.cxH]
    have l1 : (Str.ofString " ").length = 1 := by rw [Vb.len_lit]; rfl
    walk_at "rd"
    refine use_take hS (by decide) fun way H1 _ _ _ f1 S1 => ?_
    walk_at "rd"
    refine Vb.r_ite (fun c => ?_) (fun c => ?_)
    · walk_at "rd"
      intro D hD
      refine Vb.lcw_range (fun i H' => ∃ ys, StS 1750 st D i H1 H' ys) ⟨[], StS.nil S1 hD⟩ (fun x => rfl) ?_ ?_
      · rintro i H' hi ⟨ys, v⟩
        walk_at "rd"
        refine use_word v.S (by decide) fun x H2 hx f2 S2 => ?_
        have hx2 : x.length ≤ 5 := hx
        replace v := v.fr f2 S2
        walk_at "rd"
        refine Vb.r_mulS (z := x) (k := 350) ⟨by decide, by decide, by show x.length * 350 ≤ 16777216; omega⟩ ?_
        have hm := Vb.mul_len x 350
        have hi2 : i < 20 := hi
        exact ⟨_, v.h, Vb.size_lt (by rw [List.length_map, v.c]; omega), _, v.app (Nat.le_trans hm (by show x.length * 350 ≤ 1750; omega))⟩
      · rintro H' ⟨ys, v⟩
        refine Vb.r_join (Vb.sq_of v.h) (v.join (by rw [l1]; decide)) ?_
        exact q _ H' (Nat.le_trans v.len (by rw [l1]; decide)) (f1.trans v.f) v.S
    walk_at "rd"
    refine ⟨Vb.size_ok (by show 2 ≤ 16777216; decide), fun l nl => ?_⟩
    have el := Vb.same_new (o := .lst [.int 8, .int 200]) nl
    walk_at "rd"
    obtain ⟨m, hm, hg⟩ : ∃ m : Int, (m = 8 ∨ m = 200) ∧ atI [V.int 8, .int 200] (if decide (way < 6) = true then 1 else 0) = some (.int m) := by
      by_cases c : way < 6
      · rw [decide_eq_true c]
        exact ⟨200, .inr rfl, Vb.at_lit 1 rfl rfl⟩
      · rw [decide_eq_false c]
        exact ⟨8, .inl rfl, Vb.at_lit 0 rfl rfl⟩
    refine Vb.r_ixL (Vb.sq_of upd_same) hg ?_
    walk_at "rd"
    refine use_edge (S1.same el) (by omega) fun k H3 k1 k2 _ f3 S3 => ?_
    have k3 := k2 (by omega)
    have F3 := f1.trans ((Vb.Fr.of (st := st) el).trans f3)
    walk_at "rd"
    refine Vb.r_ite (fun c => ?_) (fun c => ?_)
    · walk_at "rd"
      refine use_word S3 (by decide) fun x H4 hx f4 S4 => ?_
      have hx2 : x.length ≤ 4 := hx
      walk_at "rd"
      refine ⟨Vb.size_ok (by show 1 ≤ 16777216; decide), fun l5 n5 => ?_⟩
      walk_at "rd"
      refine Vb.r_repL upd_same ⟨by omega, by omega⟩ (Vb.size_ok (by show 1 * k.toNat ≤ 16777216; omega)) fun l6 n6 => ?_
      have hrep : (List.replicate k.toNat [V.str x]).flatten = (List.replicate k.toNat x).map V.str := by simp
      rw [hrep]
      have hs := sum_le (n := 4) (List.replicate k.toNat x) fun y m => by rw [List.eq_of_mem_replicate m]; exact hx2
      have hj := join_len (Str.ofString " ") (List.replicate k.toNat x)
      rw [List.length_replicate] at hs
      rw [List.length_replicate, l1] at hj
      refine Vb.r_join (Vb.sq_of upd_same) (by rw [List.length_replicate, l1]; omega) ?_
      exact q _ _ (by omega) ((F3.trans f4).trans (Vb.Fr.of (by walk_at "sm"))) (S4.same (by walk_at "sm"))
    · walk_at "rd"
      intro D hD
      refine Vb.lcw_range (fun i H' => ∃ ys, StS 8 st D i H3 H' ys) ⟨[], StS.nil S3 hD⟩ (fun x => rfl) ?_ ?_
      · rintro i H' hi ⟨ys, v⟩
        walk_at "rd"
        refine use_take v.S (by decide) fun t H4 t1 t2 _ f4 S4 => ?_
        have t3 := t2 (by decide)
        walk_at "rd"
        refine use_word S4 ⟨by omega, by omega⟩ fun x H5 hx f5 S5 => ?_
        replace v := (v.fr f4 S4).fr f5 S5
        exact ⟨_, v.h, Vb.size_lt (by rw [List.length_map, v.c]; omega), _, v.app (by omega)⟩
      · rintro H' ⟨ys, v⟩
        have hv := v.len (sep := Str.ofString " ")
        rw [l1] at hv
        refine Vb.r_join (Vb.sq_of v.h) (v.join (by rw [l1]; omega)) ?_
        exact q _ H' (by omega) (F3.trans v.f) v.S
end
end K
namespace K
open PySem PySem.Spec PyProof.Rows L2

abbrev N__law_bent : List Str := ["store", "text", "at"]
theorem sc__law_bent : FnScope N__law_bent ["store", "text"] (defScope s__law_bent) := ⟨rfl, rfl, rfl, by decide +kernel, rfl, by decide +kernel, by decide +kernel⟩
section
variable {P : Program} {w : World} {K : PySem.W.Frag} {mg : Str → Option Value} {base : Heap}
def sp_bent (K : PySem.W.Frag) : Sp := fun vs H Q _ => ∃ (st : Addr) (x : Str), vs = [.ref st, .str x] ∧ Vb.StoreAt H st ∧ x.length ≤ 1000000 ∧ ∀ (s : Str) (H' : Hp), s.length ≤ 2 * x.length + 2 → Vb.Fr st H H' → Vb.StoreAt H' st → Q (.str s) H'
theorem ok_bent (T : Txt K mg) : FnOk P w K mg base (L2N.CX P w) 4 T.f__law_bent T.fd__law_bent ["store", "text"] (sp_bent K) := by
  have G__law_pick := ok_pick (P := P) (w := w) (base := base) T
  have G__law_take := ok_take (P := P) (w := w) (base := base) T
  have G__law_chance := ok_chance (P := P) (w := w) (base := base) T
  refine Vb.okN T.d__law_bent.F sc__law_bent (fun vs H Q E h => ?_) (fun cdv A outer s H vs Q E hr h => ?_)
  · obtain ⟨a, b, rfl, _⟩ := h
    rfl
  · obtain ⟨st, x, rfl, hS, hx, q⟩ := h
    refine ⟨_, (pss_cons (ps_set (i := 2) sc__law_bent.nd rfl (by first | exact Or.inl rfl | exact Or.inr rfl) (pe_callS G__law_take (hr.mono (by first | decide | omega)) (by rfl) T.d__law_take.g T.d__law_take.F.kp T.d__law_take.b (fun σ => L2N.passAt (L2N.takes_of rfl rfl rfl rfl) σ) (pa_cons (pv 0) (pa_cons (pe_op op_add (pe_callB Vb.call_lenS (by rfl) T.n_len (by decide +kernel) (pa_cons (pv 1) pa_nil)) pe_int) pa_nil))))
      (pss_cons (ps_if (pt_val (pe_callS G__law_chance (hr.mono (by first | decide | omega)) (by rfl) T.d__law_chance.g T.d__law_chance.F.kp T.d__law_chance.b (fun σ => L2N.passAt (L2N.takes_of rfl rfl rfl rfl) σ) (pa_cons (pv 0) (pa_cons pe_int pa_nil)))) (pss_one (ps_set (i := 2) sc__law_bent.nd rfl (by first | exact Or.inl rfl | exact Or.inr rfl) (pe_callS G__law_pick (hr.mono (by first | decide | omega)) (by rfl) T.d__law_pick.g T.d__law_pick.F.kp T.d__law_pick.b (fun σ => L2N.passAt (L2N.takes_of rfl rfl rfl rfl) σ) (pa_cons (pv 0) (pa_cons (pe_lst (pa_cons pe_int (pa_cons (pe_callB Vb.call_lenS (by rfl) T.n_len (by decide +kernel) (pa_cons (pv 1) pa_nil)) pa_nil))) pa_nil))))) pss_nil)
      (pss_one (ps_ret (pe_op Vb.op_addS (pe_op Vb.op_addS (pe_slice sl_str (pv 1) po_none (po_some (pv 2))) (pe_callS G__law_pick (hr.mono (by first | decide | omega)) (by rfl) T.d__law_pick.g T.d__law_pick.F.kp T.d__law_pick.b (fun σ => L2N.passAt (L2N.takes_of rfl rfl rfl rfl) σ) (pa_cons (pv 0) (pa_cons (pe_lst (pa_cons pe_str (pa_cons pe_str (pa_cons pe_str (pa_cons pe_str (pa_cons pe_str (pa_cons pe_str pa_nil))))))) pa_nil)))) (pe_slice sl_str (pv 1) (po_some (pv 2)) po_none)))))), ?_⟩
    (change (_ : L2.TS) _ ([some (.ref st), some (.str x), none] : L2.St) _); try dsimp only [L2.cxOf, L2H.cxH]
    have fin : ∀ {H1 : Hp} {at_ : Int}, Vb.Fr st H H1 → Vb.StoreAt H1 st → tRet (tOp Vb.rAddS (tOp Vb.rAddS (tSl rSlS (tVar 1) tNoPart (tPart (tVar 2))) (tCallS (sp_pick K) (fun σ => WE (fun cls d x H => E cls d H) σ) (tCons (tVar 0) (tCons (tLst (tCons (tC (V.str (Str.ofString " "))) (tCons (tC (V.str (Str.ofString " "))) (tCons (tC (V.str (Str.ofString "  "))) (tCons (tC (V.str (Str.ofString "\n"))) (tCons (tC (V.str (Str.ofString "x"))) (tCons (tC (V.str (Str.ofString " x"))) tNil))))))) tNil)))) (tSl rSlS (tVar 1) (tPart (tVar 2)) tNoPart)) (Ends.mk (fun _ H' => Q V.non H') Q (fun _ H' => Q V.non H') (fun _ H' => Q V.non H')) [some (.ref st), some (.str x), some (.int at_)] H1 := by
      intro H1 at_ f S
      walk_at "rd"
      refine ⟨Vb.size_ok (by show 6 ≤ 16777216; decide), fun l nl => ?_⟩
      have el := Vb.same_new (o := .lst [.str (Str.ofString " "), .str (Str.ofString " "), .str (Str.ofString "  "), .str (Str.ofString "\n"), .str (Str.ofString "x"), .str (Str.ofString " x")]) nl
      walk_at "rd"
      refine use_pick [.str (Str.ofString " "), .str (Str.ofString " "), .str (Str.ofString "  "), .str (Str.ofString "\n"), .str (Str.ofString "x"), .str (Str.ofString " x")] (S.same el) (S.ne nl) (Vb.sq_of upd_same) (by show 6 < 1000000; decide) (by simp) fun i v H3 hi f3 S3 => ?_
      obtain ⟨z, rfl, hz⟩ : ∃ z, v = .str z ∧ z.length ≤ 2 := by
        have m := List.mem_of_getElem? hi
        simp only [List.mem_cons, List.not_mem_nil, or_false] at m
        rcases m with rfl | rfl | rfl | rfl | rfl | rfl <;> exact ⟨_, rfl, by walk_at "ln"⟩
      have c1 := Vb.cut_len x none (some at_)
      have c2 := Vb.cut_len x (some at_) none
      walk_at "rd"
      exact q _ H3 (by rw [Vb.len_app, Vb.len_app]; omega) (f.trans ((Vb.Fr.of el).trans f3)) S3
    walk_at "rd"
    refine use_take hS (by omega) fun t H1 _ _ _ f1 S1 => ?_
    walk_at "rd"
    refine use_chance S1 (by decide) fun b H2 f2 S2 => ?_
    walk_at "rd"
    cases b with
    | true =>
      walk_at "rd"
      refine ⟨Vb.size_ok (by show 2 ≤ 16777216; decide), fun l nl => ?_⟩
      have el := Vb.same_new (o := .lst [.int 0, .int x.length]) nl
      walk_at "rd"
      refine use_pick [.int 0, .int x.length] (S2.same el) (S2.ne nl) (Vb.sq_of upd_same) (by show 2 < 1000000; decide) (by simp) fun i v H3 hi f3 S3 => ?_
      obtain ⟨z, rfl⟩ : ∃ z, v = .int z := by
        have m := List.mem_of_getElem? hi
        simp only [List.mem_cons, List.not_mem_nil, or_false] at m
        rcases m with rfl | rfl <;> exact ⟨_, rfl⟩
      exact fin ((f1.trans f2).trans ((Vb.Fr.of el).trans f3)) S3
    | false =>
      exact fin (f1.trans f2) S2
end
end K
namespace K
open PySem PySem.Spec PyProof.Rows L2

abbrev N__law_near_name : List Str := ["store", "name", "way", "at", "sign"]
theorem sc__law_near_name : FnScope N__law_near_name ["store"] (defScope s__law_near_name) := ⟨rfl, rfl, rfl, by decide +kernel, rfl, by decide +kernel, by decide +kernel⟩
section
variable {P : Program} {w : World} {K : PySem.W.Frag} {mg : Str → Option Value} {base : Heap}
theorem ok_nearname (T : Txt K mg) : FnOk P w K mg base (L2N.CX P w) 5 T.f__law_near_name T.fd__law_near_name ["store"] (sp_txt K 100) := by
  have G__law_name := ok_name (P := P) (w := w) (base := base) T
  have G__law_take := ok_take (P := P) (w := w) (base := base) T
  have G__law_pick := ok_pick (P := P) (w := w) (base := base) T
  have G__law_letters := ok_letters (P := P) (w := w) (base := base) T
  refine Vb.okN T.d__law_near_name.F sc__law_near_name (fun vs H Q E h => ?_) (fun cdv A outer s H vs Q E hr h => ?_)
  · obtain ⟨a, rfl, _⟩ := h
    rfl
  · obtain ⟨st, rfl, hS, q⟩ := h
    refine ⟨_, (pss_cons (ps_set (i := 1) sc__law_near_name.nd rfl (by first | exact Or.inl rfl | exact Or.inr rfl) (pe_callS G__law_name (hr.mono (by first | decide | omega)) (by rfl) T.d__law_name.g T.d__law_name.F.kp T.d__law_name.b (fun σ => L2N.passAt (L2N.takes_of rfl rfl rfl rfl) σ) (pa_cons (pv 0) pa_nil)))
      (pss_cons (ps_set (i := 2) sc__law_near_name.nd rfl (by first | exact Or.inl rfl | exact Or.inr rfl) (pe_callS G__law_take (hr.mono (by first | decide | omega)) (by rfl) T.d__law_take.g T.d__law_take.F.kp T.d__law_take.b (fun σ => L2N.passAt (L2N.takes_of rfl rfl rfl rfl) σ) (pa_cons (pv 0) (pa_cons pe_int pa_nil))))
      (pss_cons (ps_set (i := 3) sc__law_near_name.nd rfl (by first | exact Or.inl rfl | exact Or.inr rfl) (pe_callS G__law_take (hr.mono (by first | decide | omega)) (by rfl) T.d__law_take.g T.d__law_take.F.kp T.d__law_take.b (fun σ => L2N.passAt (L2N.takes_of rfl rfl rfl rfl) σ) (pa_cons (pv 0) (pa_cons (pe_callB Vb.call_lenS (by rfl) T.n_len (by decide +kernel) (pa_cons (pv 1) pa_nil)) pa_nil))))
      (pss_cons (ps_set (i := 4) sc__law_near_name.nd rfl (by first | exact Or.inl rfl | exact Or.inr rfl) (pe_callS G__law_pick (hr.mono (by first | decide | omega)) (by rfl) T.d__law_pick.g T.d__law_pick.F.kp T.d__law_pick.b (fun σ => L2N.passAt (L2N.takes_of rfl rfl rfl rfl) σ) (pa_cons (pv 0) (pa_cons (pe_lst (pa_cons pe_str (pa_cons pe_str (pa_cons pe_str (pa_cons pe_str (pa_cons pe_str (pa_cons pe_str (pa_cons pe_str (pa_cons pe_str (pa_cons pe_str (pa_cons pe_str (pa_cons pe_str (pa_cons pe_str (pa_cons pe_str (pa_cons pe_str (pa_cons pe_str (pa_cons pe_str (pa_cons pe_str (pa_cons pe_str pa_nil))))))))))))))))))) pa_nil))))
      (pss_cons (ps_if (pt_cmpR op_eq (pv 2) pe_int (nomark _)) (pss_one (ps_ret (pe_op Vb.op_addS (pe_slice sl_str (pv 1) po_none (po_some (pv 3))) (pe_slice sl_str (pv 1) (po_some (pe_op op_add (pv 3) pe_int)) po_none)))) pss_nil)
      (pss_cons (ps_if (pt_cmpR op_eq (pv 2) pe_int (nomark _)) (pss_one (ps_ret (pe_op Vb.op_addS (pe_op Vb.op_addS (pe_slice sl_str (pv 1) po_none (po_some (pv 3))) (pv 4)) (pe_slice sl_str (pv 1) (po_some (pv 3)) po_none)))) pss_nil)
      (pss_cons (ps_if (pt_cmpR op_eq (pv 2) pe_int (nomark _)) (pss_one (ps_ret (pe_op Vb.op_addS (pe_op Vb.op_addS (pe_slice sl_str (pv 1) po_none (po_some (pv 3))) (pv 4)) (pe_slice sl_str (pv 1) (po_some (pe_op op_add (pv 3) pe_int)) po_none)))) pss_nil)
      (pss_one (ps_ret (pe_op Vb.op_addS (pv 1) (pe_slice sl_str (pe_callS G__law_letters (hr.mono (by first | decide | omega)) (by rfl) T.d__law_letters.g T.d__law_letters.F.kp T.d__law_letters.b (fun σ => L2N.passAt (L2N.takes_of rfl rfl rfl rfl) σ) (pa_cons (pv 0) (pa_cons pe_int pa_nil))) po_none (po_some (pe_callS G__law_pick (hr.mono (by first | decide | omega)) (by rfl) T.d__law_pick.g T.d__law_pick.F.kp T.d__law_pick.b (fun σ => L2N.passAt (L2N.takes_of rfl rfl rfl rfl) σ) (pa_cons (pv 0) (pa_cons (pe_lst (pa_cons pe_int (pa_cons pe_int (pa_cons (pe_op op_sub pe_int (pe_callB Vb.call_lenS (by rfl) T.n_len (by decide +kernel) (pa_cons (pv 1) pa_nil))) (pa_cons (pe_op op_sub pe_int (pe_callB Vb.call_lenS (by rfl) T.n_len (by decide +kernel) (pa_cons (pv 1) pa_nil))) pa_nil))))) pa_nil))))))))))))))), ?_⟩
    (change (_ : L2.TS) _ ([some (.ref st), none, none, none, none] : L2.St) _); try dsimp only [L2.cxOf, L2H.cxH]
    walk_at "rd"
    refine use_name hS fun s H1 hs f1 S1 => ?_
    obtain ⟨l1, l2⟩ := use_name_len hs
    walk_at "rd"
    refine use_take S1 (by decide) fun way H2 _ _ _ f2 S2 => ?_
    walk_at "rd"
    refine use_take S2 (by omega) fun t H3 _ _ _ f3 S3 => ?_
    have d1 := Vb.cut_len s none (some t)
    have d2 := Vb.cut_len s (some (t + 1)) none
    have d3 := Vb.cut_len s (some t) none
    walk_at "rd"
    refine ⟨Vb.size_ok (by show 18 ≤ 16777216; decide), fun l nl => ?_⟩
    generalize hxs : [V.str (Str.ofString "a"), V.str (Str.ofString "z"), V.str (Str.ofString "0"), V.str (Str.ofString "9"), V.str (Str.ofString "A"), V.str (Str.ofString "Z"), V.str (Str.ofString "_"), V.str (Str.ofString "-"), V.str (Str.ofString " "), V.str (Str.ofString "\n"), V.str (Str.ofString "."), V.str (Str.ofString "@"), V.str (Str.ofString "{"), V.str (Str.ofString "/"), V.str (Str.ofString ":"), V.str (Str.ofString "`"), V.str (Str.ofString "["), V.str (Str.ofString "~")] = xs
    have el := Vb.same_new (o := .lst xs) nl
    walk_at "rd"
    refine use_pick xs (S3.same el) (S3.ne nl) (Vb.sq_of upd_same) (by rw [← hxs]; decide) (by rw [← hxs]; simp) fun i v H4 hi f4 S4 => ?_
    obtain ⟨z, rfl, hz⟩ : ∃ z, v = .str z ∧ z.length ≤ 1 := by
      have m := List.mem_of_getElem? hi
      rw [← hxs] at m
      simp only [List.mem_cons, List.not_mem_nil, or_false] at m
      rcases m with rfl | rfl | rfl | rfl | rfl | rfl | rfl | rfl | rfl | rfl | rfl | rfl | rfl | rfl | rfl | rfl | rfl | rfl <;> exact ⟨_, rfl, by walk_at "ln"⟩
    have F := (f1.trans (f2.trans f3)).trans ((Vb.Fr.of (st := st) el).trans f4)
    walk_at "rd"
    refine Vb.r_ite (fun c => ?_) (fun c => ?_)
    · walk_at "rd"
      exact q _ _ (by walk_at "ln") F S4
    walk_at "rd"
    refine Vb.r_ite (fun c => ?_) (fun c => ?_)
    · walk_at "rd"
      exact q _ _ (by walk_at "ln") F S4
    walk_at "rd"
    refine Vb.r_ite (fun c => ?_) (fun c => ?_)
    · walk_at "rd"
      exact q _ _ (by walk_at "ln") F S4
    walk_at "rd"
    refine use_letters S4 (by decide) fun y H5 hy _ f5 S5 => ?_
    have hy2 : y.length ≤ 13 := by rw [Vb.sg_len, hy]; decide
    walk_at "rd"
    refine ⟨Vb.size_ok (by show 4 ≤ 16777216; decide), fun l6 n6 => ?_⟩
    have e6 := Vb.same_new (o := .lst [.int 12, .int 13, .int (13 - s.length), .int (12 - s.length)]) n6
    walk_at "rd"
    refine use_pick [.int 12, .int 13, .int (13 - s.length), .int (12 - s.length)] (S5.same e6) (S5.ne n6) (Vb.sq_of upd_same) (by show 4 < 1000000; decide) (by simp) fun i v H7 hi f7 S7 => ?_
    obtain ⟨k, rfl⟩ : ∃ k, v = .int k := by
      have m := List.mem_of_getElem? hi
      simp only [List.mem_cons, List.not_mem_nil, or_false] at m
      rcases m with rfl | rfl | rfl | rfl <;> exact ⟨_, rfl⟩
    have d4 := Vb.cut_len y none (some k)
    walk_at "rd"
    exact q _ _ (by walk_at "ln") ((F.trans f5).trans ((Vb.Fr.of e6).trans f7)) S7
end
end K
namespace K
open PySem PySem.Spec PyProof.Rows L2
section
/-- a list of k texts at l, none of which is long -/
structure TxL (n k : Nat) (st l : Addr) (H : Hp) (ys : List Str) : Prop where
  ne : l ≠ st
  h : H l = some (.lst (ys.map V.str))
  c : ys.length = k
  a : ∀ y ∈ ys, y.length ≤ n
theorem TxL.fr {n k : Nat} {st l : Addr} {H H' : Hp} {ys : List Str} (v : TxL n k st l H ys) (f : Vb.Fr st H H') : TxL n k st l H' ys := ⟨v.ne, f.k _ _ v.ne v.h, v.c, v.a⟩
theorem StS.tx {n k : Nat} {st D : Addr} {H H' : Hp} {ys : List Str} (v : StS n st D k H H' ys) : TxL n k st D H' ys := ⟨v.ne, v.h, v.c, v.a⟩
theorem TxL.new {n : Nat} {st l : Addr} {H : Hp} (ys : List Str) (s : Vb.StoreAt H st) (h : H l = none) (a : ∀ y ∈ ys, y.length ≤ n) : TxL n ys.length st l (upd H l (.lst (ys.map V.str))) ys := ⟨s.ne h, upd_same, rfl, a⟩
theorem TxL.cat {n j k : Nat} {st l m p : Addr} {H : Hp} {ys zs : List Str} (v : TxL n j st l H ys) (u : TxL n k st m H zs) (s : Vb.StoreAt H st) (h : H p = none) : TxL n (j + k) st p (upd H p (.lst (ys.map V.str ++ zs.map V.str))) (ys ++ zs) := ⟨s.ne h, by rw [upd_same, List.map_append], by rw [List.length_append, v.c, u.c], fun y m => (List.mem_append.mp m).elim (v.a y) (u.a y)⟩
theorem TxL.sz {n k : Nat} {st l : Addr} {H : Hp} {ys : List Str} (v : TxL n k st l H ys) : (ys.map V.str).length = k := by rw [List.length_map, v.c]
/-- a list of values at l, told by their data -/
structure VaL (K : PySem.W.Frag) (k : Nat) (st l : Addr) (H : Hp) (xs : List V) (ds : List PyData) : Prop where
  ne : l ≠ st
  h : H l = some (.lst xs)
  c : xs.length ≤ k
  d : DpAll K (Vb.offs [st] H) xs ds
  a : ∀ d ∈ ds, FlatD d
theorem VaL.fr {K : PySem.W.Frag} {k : Nat} {st l : Addr} {H H' : Hp} {xs : List V} {ds : List PyData} (v : VaL K k st l H xs ds) (f : Vb.Fr st H H') : VaL K k st l H' xs ds := ⟨v.ne, f.k _ _ v.ne v.h, v.c, Vb.dpa_same (Vb.offs_fr f List.mem_cons_self) _ _ v.d, v.a⟩
theorem VaL.to {K : PySem.W.Frag} {j k : Nat} {st l : Addr} {H H' : Hp} {xs : List V} {ds : List PyData} (v : VaL K j st l H xs ds) (e : H = H') (h : j ≤ k) : VaL K k st l H' xs ds := by
  subst e
  exact ⟨v.ne, v.h, Nat.le_trans v.c h, v.d, v.a⟩
theorem TxL.va {K : PySem.W.Frag} {n k : Nat} {st l : Addr} {H : Hp} {ys : List Str} (v : TxL n k st l H ys) (h : n ≤ 1000000) : VaL K k st l H (ys.map V.str) (ys.map PyData.str) := ⟨v.ne, v.h, Nat.le_of_eq v.sz, dpa_strs ys, fun d m => by
  obtain ⟨y, my, rfl⟩ := List.mem_map.mp m
  exact flat_str (Nat.le_trans (v.a y my) h)⟩
theorem VaL.cat {K : PySem.W.Frag} {j k : Nat} {st l m p : Addr} {H : Hp} {xs us : List V} {ds es : List PyData} (v : VaL K j st l H xs ds) (u : VaL K k st m H us es) (s : Vb.StoreAt H st) (h : H p = none) : VaL K (j + k) st p (upd H p (.lst (xs ++ us))) (xs ++ us) (ds ++ es) := by
  have v' := v.fr (Vb.Fr.of (Vb.same_new (o := .lst (xs ++ us)) h))
  have u' := u.fr (Vb.Fr.of (Vb.same_new (o := .lst (xs ++ us)) h))
  refine ⟨s.ne h, upd_same, by rw [List.length_append]; exact Nat.add_le_add v.c u.c, Vb.dpa_app v'.d u'.d, fun d m => (List.mem_append.mp m).elim (v.a d) (u.a d)⟩
theorem VaL.new {K : PySem.W.Frag} {st l : Addr} {H : Hp} {xs : List V} {ds : List PyData} (s : Vb.StoreAt H st) (h : H l = none) (d : DpAll K (Vb.offs [st] H) xs ds) (a : ∀ d ∈ ds, FlatD d) : VaL K xs.length st l (upd H l (.lst xs)) xs ds := ⟨s.ne h, upd_same, Nat.le_refl _, Vb.dpa_same (Vb.offs_same (Vb.same_new h)) _ _ d, a⟩
theorem cutV_mem {xs : List V} {lo hi : Option Int} {v : V} (h : v ∈ cutV xs lo hi) : v ∈ xs := by
  unfold cutV at h
  exact List.mem_of_mem_drop (List.mem_of_mem_take h)
theorem dpa_part {K : PySem.W.Frag} {H : Hp} {xs : List V} {ds : List PyData} (d : DpAll K H xs ds) : ∀ (zs : List V), (∀ v ∈ zs, v ∈ xs) → ∃ es, DpAll K H zs es ∧ ∀ e ∈ es, e ∈ ds := by
  intro zs h
  induction zs with
  | nil => exact ⟨[], .nil, fun e m => by cases m⟩
  | cons z zs ih =>
    obtain ⟨es, h1, h2⟩ := ih fun v m => h v (List.mem_cons_of_mem _ m)
    obtain ⟨i, hi⟩ := List.getElem?_of_mem (h z List.mem_cons_self)
    obtain ⟨d', g1, g2⟩ := Vb.dpa_get d hi
    exact ⟨d' :: es, .cons g2 h1, fun e m => by
      rcases List.mem_cons.mp m with rfl | m
      · exact List.mem_of_getElem? g1
      · exact h2 e m⟩
theorem VaL.cut {K : PySem.W.Frag} {k : Nat} {st l p : Addr} {H : Hp} {xs : List V} {ds : List PyData} {lo hi : Option Int} (v : VaL K k st l H xs ds) (s : Vb.StoreAt H st) (h : H p = none) : ∃ es, VaL K k st p (upd H p (.lst (cutV xs lo hi))) (cutV xs lo hi) es := by
  obtain ⟨es, h1, h2⟩ := dpa_part v.d (cutV xs lo hi) fun z m => cutV_mem m
  exact ⟨es, s.ne h, upd_same, Nat.le_trans (cutV_length _ _ _) v.c, Vb.dpa_same (Vb.offs_same (Vb.same_new h)) _ _ h1, fun d m => v.a d (h2 d m)⟩
theorem ascii_name : ∀ c ∈ Vb.sg (LET ++ FIG), c < 128 := by
  rw [Vb.sg_app, Vb.sg_lit, Vb.sg_lit]
  decide
theorem up_let : ∀ c ∈ Vb.sg LET, up1 c ∉ Vb.sg LET := by
  rw [Vb.sg_lit]
  decide
/-- a name in great letters is none -/
theorem upper_no {s : Str} (h : nameL (Vb.sg s) = true) : nameL (Vb.sg (Txt.upper s)) = false := by
  cases e : Vb.sg s with
  | nil => rw [e] at h; cases h
  | cons c l =>
    rw [e] at h
    have h' : (decide (l.length < 12) && (decide (c ∈ Vb.sg LET) && (c :: l).all nsign)) = true := h
    rw [Bool.and_eq_true, Bool.and_eq_true, decide_eq_true_iff, List.all_eq_true] at h'
    obtain ⟨_, h2, h3⟩ := h'
    have hu : Txt.upper s = ⟨s.cps.map up1⟩ := upper_ascii fun d m => by
      have m' : d ∈ Vb.sg s := m
      rw [e] at m'
      exact ascii_name d (of_decide_eq_true (h3 d m'))
    have hs : Vb.sg (Txt.upper s) = (Vb.sg s).map up1 := by
      rw [hu]
      show (s.cps.map up1).toList = s.cps.toList.map up1
      rw [Array.toList_map]
    rw [hs, e]
    show (decide _ && (decide (up1 c ∈ Vb.sg LET) && _)) = false
    rw [decide_eq_false (up_let c (of_decide_eq_true h2)), Bool.false_and, Bool.and_false]
end
end K
namespace K
open PySem PySem.Spec PyProof.Rows L2


abbrev N_law : List Str := ["script", "store", "text", "texts", "one", "values", "value", "kept", "name", "k"]
theorem sc_law : FnScope N_law ["script"] (defScope s_law) := ⟨rfl, rfl, rfl, by decide +kernel, rfl, by decide +kernel, by decide +kernel⟩
section
variable {P : Program} {w : World} {K : PySem.W.Frag} {mg : Str → Option Value} {base : Heap}
def sp_law (K : PySem.W.Frag) : Sp := fun vs H Q _ => ∃ (a : Addr) (ns : List Int), vs = [.ref a] ∧ SqL K H a (ns.map V.int) ∧ ns.length ≤ 63 ∧ ∀ H', Q (.bl true) H'
theorem ok_law (T : Txt K mg) : FnOk P w K mg base (L2N.CX P w) 8 T.f_law T.fd_law ["script"] (sp_law K) := by
  have G__law_store := ok_store (P := P) (w := w) (base := base) T
  have G__law_joined := ok_joined (P := P) (w := w) (base := base) T
  have G__law_bent := ok_bent (P := P) (w := w) (base := base) T
  have G__law_text := ok_text (P := P) (w := w) (base := base) T
  have G__law_edge := ok_edge (P := P) (w := w) (base := base) T
  have G__law_pick := ok_pick (P := P) (w := w) (base := base) T
  have G__law_splits := ok_splits (P := P) (w := w) (base := base) T
  have G__law_near_name := ok_nearname (P := P) (w := w) (base := base) T
  have G__law_bad_name := ok_badname (P := P) (w := w) (base := base) T
  have G__law_name := ok_name (P := P) (w := w) (base := base) T
  have G__law_letters := ok_letters (P := P) (w := w) (base := base) T
  have G__law_copy := ok_copy (P := P) (w := w) (base := base) T 5
  have G__law_same := ok_same (P := P) (w := w) (base := base) T 5
  have G_is_name := ok_isname (P := P) (w := w) (base := base) T
  have G__law_named := ok_named (P := P) (w := w) (base := base) T
  refine Vb.okN T.d_law.F sc_law (fun vs H Q E h => ?_) (fun cdv A outer s H vs Q E hr h => ?_)
  · obtain ⟨a, ns, rfl, _⟩ := h
    rfl
  · obtain ⟨a, ns, rfl, ha, hn, q⟩ := h
    refine ⟨_, (pss_cons (ps_set (i := 1) sc_law.nd rfl (by first | exact Or.inl rfl | exact Or.inr rfl) (pe_callS G__law_store (hr.mono (by first | decide | omega)) (by rfl) T.d__law_store.g T.d__law_store.F.kp T.d__law_store.b (fun σ => L2N.passAt (L2N.takes_of rfl rfl rfl rfl) σ) (pa_cons (pv 0) pa_nil)))
      (pss_cons (ps_set (i := 2) sc_law.nd rfl (by first | exact Or.inl rfl | exact Or.inr rfl) (pe_callS G__law_joined (hr.mono (by first | decide | omega)) (by rfl) T.d__law_joined.g T.d__law_joined.F.kp T.d__law_joined.b (fun σ => L2N.passAt (L2N.takes_of rfl rfl rfl rfl) σ) (pa_cons (pv 1) pa_nil)))
      (pss_cons (ps_set (i := 3) sc_law.nd rfl (by first | exact Or.inl rfl | exact Or.inr rfl) (pe_op op_cat (pe_lst (pa_cons (pv 2) pa_nil)) (pe_lc (own := [("k", 9)]) (g := gName 9) (tt := tYes) rfl sc_law.nd (pi_range1 rfl T.n_range (pa_cons pe_int pa_nil)) (blkOk_by (own := [("k", 9)]) (N := N_law) (sc := defScope s_law) (by decide +kernel)) (fun _ _ _ _ _ => (pg_name (i := 9) sc_law.nd rfl (by first | exact Or.inl rfl | exact Or.inr rfl))) (fun _ _ _ _ _ => pts_nil) (fun _ _ _ _ _ => (pe_call G__law_bent (hr.mono (by first | decide | omega)) (by rfl) T.d__law_bent.g T.d__law_bent.F.kp T.d__law_bent.b .nil Vb.pass5 (pa_cons (pv 1) (pa_cons (pv 2) pa_nil)))))))
      (pss_cons (ps_set (i := 3) sc_law.nd rfl (by first | exact Or.inl rfl | exact Or.inr rfl) (pe_op op_cat (pv 3) (pe_lc (own := [("k", 9)]) (g := gName 9) (tt := tYes) rfl sc_law.nd (pi_range1 rfl T.n_range (pa_cons pe_int pa_nil)) (blkOk_by (own := [("k", 9)]) (N := N_law) (sc := defScope s_law) (by decide +kernel)) (fun _ _ _ _ _ => (pg_name (i := 9) sc_law.nd rfl (by first | exact Or.inl rfl | exact Or.inr rfl))) (fun _ _ _ _ _ => pts_nil) (fun _ _ _ _ _ => (pe_call G__law_text (hr.mono (by first | decide | omega)) (by rfl) T.d__law_text.g T.d__law_text.F.kp T.d__law_text.b .nil Vb.pass5 (pa_cons (pv 1) (pa_cons (pe_call G__law_edge (hr.mono (by first | decide | omega)) (by rfl) T.d__law_edge.g T.d__law_edge.F.kp T.d__law_edge.b .nil Vb.pass5 (pa_cons (pv 1) (pa_cons pe_int (pa_cons pe_int pa_nil)))) pa_nil)))))))
      (pss_cons (ps_set (i := 3) sc_law.nd rfl (by first | exact Or.inl rfl | exact Or.inr rfl) (pe_op op_cat (pv 3) (pe_lc (own := [("k", 9)]) (g := gName 9) (tt := tYes) rfl sc_law.nd (pi_range1 rfl T.n_range (pa_cons pe_int pa_nil)) (blkOk_by (own := [("k", 9)]) (N := N_law) (sc := defScope s_law) (by decide +kernel)) (fun _ _ _ _ _ => (pg_name (i := 9) sc_law.nd rfl (by first | exact Or.inl rfl | exact Or.inr rfl))) (fun _ _ _ _ _ => pts_nil) (fun _ _ _ _ _ => (pe_call G__law_text (hr.mono (by first | decide | omega)) (by rfl) T.d__law_text.g T.d__law_text.F.kp T.d__law_text.b .nil Vb.pass5 (pa_cons (pv 1) (pa_cons (pe_call G__law_edge (hr.mono (by first | decide | omega)) (by rfl) T.d__law_edge.g T.d__law_edge.F.kp T.d__law_edge.b .nil Vb.pass5 (pa_cons (pv 1) (pa_cons pe_int (pa_cons pe_int pa_nil)))) pa_nil)))))))
      (pss_cons (ps_set (i := 3) sc_law.nd rfl (by first | exact Or.inl rfl | exact Or.inr rfl) (pe_op op_cat (pv 3) (pe_lst (pa_cons (pe_callS G__law_pick (hr.mono (by first | decide | omega)) (by rfl) T.d__law_pick.g T.d__law_pick.F.kp T.d__law_pick.b (fun σ => L2N.passAt (L2N.takes_of rfl rfl rfl rfl) σ) (pa_cons (pv 1) (pa_cons (pe_lst (pa_cons pe_str (pa_cons pe_str (pa_cons pe_str (pa_cons pe_str (pa_cons pe_str (pa_cons pe_str (pa_cons pe_str pa_nil)))))))) pa_nil))) (pa_cons pe_str (pa_cons (pv 2) pa_nil))))))
      (pss_cons (ps_for (L2.passes_of rfl) rfl (pi_list (pv 3)) (pg_name (i := 4) sc_law.nd rfl (by first | exact Or.inl rfl | exact Or.inr rfl))
        (pss_one (ps_if (pt_not (pt_val (pe_callS G__law_splits (hr.mono (by first | decide | omega)) (by rfl) T.d__law_splits.g T.d__law_splits.F.kp T.d__law_splits.b (fun σ => L2N.passAt (L2N.takes_of rfl rfl rfl rfl) σ) (pa_cons (pv 4) pa_nil)))) (pss_one (ps_ret pe_bl)) pss_nil)))
      (pss_cons (ps_set (i := 5) sc_law.nd rfl (by first | exact Or.inl rfl | exact Or.inr rfl) (pe_op op_cat (pe_lc (own := [("k", 9)]) (g := gName 9) (tt := tYes) rfl sc_law.nd (pi_range1 rfl T.n_range (pa_cons pe_int pa_nil)) (blkOk_by (own := [("k", 9)]) (N := N_law) (sc := defScope s_law) (by decide +kernel)) (fun _ _ _ _ _ => (pg_name (i := 9) sc_law.nd rfl (by first | exact Or.inl rfl | exact Or.inr rfl))) (fun _ _ _ _ _ => pts_nil) (fun _ _ _ _ _ => (pe_call G__law_near_name (hr.mono (by first | decide | omega)) (by rfl) T.d__law_near_name.g T.d__law_near_name.F.kp T.d__law_near_name.b .nil Vb.pass5 (pa_cons (pv 1) pa_nil)))) (pe_lst (pa_cons (pe_callS G__law_bad_name (hr.mono (by first | decide | omega)) (by rfl) T.d__law_bad_name.g T.d__law_bad_name.F.kp T.d__law_bad_name.b (fun σ => L2N.passAt (L2N.takes_of rfl rfl rfl rfl) σ) (pa_cons (pv 1) pa_nil)) (pa_cons (pe_callS G__law_name (hr.mono (by first | decide | omega)) (by rfl) T.d__law_name.g T.d__law_name.F.kp T.d__law_name.b (fun σ => L2N.passAt (L2N.takes_of rfl rfl rfl rfl) σ) (pa_cons (pv 1) pa_nil)) (pa_cons (pe_callS G__law_name (hr.mono (by first | decide | omega)) (by rfl) T.d__law_name.g T.d__law_name.F.kp T.d__law_name.b (fun σ => L2N.passAt (L2N.takes_of rfl rfl rfl rfl) σ) (pa_cons (pv 1) pa_nil)) pa_nil))))))
      (pss_cons (ps_set (i := 5) sc_law.nd rfl (by first | exact Or.inl rfl | exact Or.inr rfl) (pe_op op_cat (pe_op op_cat (pv 5) (pe_slice sl_list (pv 3) (po_some pe_int) (po_some pe_int))) (pe_lst (pa_cons pe_non (pa_cons pe_bl (pa_cons pe_int (pa_cons (pe_lst pa_nil) (pa_cons (pe_lst (pa_cons pe_str pa_nil)) (pa_cons (pe_tup (pa_cons pe_str pa_nil)) (pa_cons pe_str (pa_cons (pe_callS G__law_letters (hr.mono (by first | decide | omega)) (by rfl) T.d__law_letters.g T.d__law_letters.F.kp T.d__law_letters.b (fun σ => L2N.passAt (L2N.takes_of rfl rfl rfl rfl) σ) (pa_cons (pv 1) (pa_cons pe_int pa_nil))) pa_nil)))))))))))
      (pss_cons (ps_set (i := 5) sc_law.nd rfl (by first | exact Or.inl rfl | exact Or.inr rfl) (pe_op op_cat (pv 5) (pe_lst (pa_cons (pe_callS G__law_letters (hr.mono (by first | decide | omega)) (by rfl) T.d__law_letters.g T.d__law_letters.F.kp T.d__law_letters.b (fun σ => L2N.passAt (L2N.takes_of rfl rfl rfl rfl) σ) (pa_cons (pv 1) (pa_cons pe_int pa_nil))) (pa_cons (pe_callS G__law_letters (hr.mono (by first | decide | omega)) (by rfl) T.d__law_letters.g T.d__law_letters.F.kp T.d__law_letters.b (fun σ => L2N.passAt (L2N.takes_of rfl rfl rfl rfl) σ) (pa_cons (pv 1) (pa_cons pe_int pa_nil))) (pa_cons (pe_op Vb.op_addS (pe_callS G__law_name (hr.mono (by first | decide | omega)) (by rfl) T.d__law_name.g T.d__law_name.F.kp T.d__law_name.b (fun σ => L2N.passAt (L2N.takes_of rfl rfl rfl rfl) σ) (pa_cons (pv 1) pa_nil)) pe_str) (pa_cons pe_str (pa_cons (pe_op Vb.op_mulS pe_str pe_int) pa_nil))))))))
      (pss_cons (ps_for (L2.passes_of rfl) rfl (pi_list (pe_op op_cat (pv 5) (pe_slice sl_list (pv 5) po_none (po_some pe_int)))) (pg_name (i := 6) sc_law.nd rfl (by first | exact Or.inl rfl | exact Or.inr rfl))
        (pss_cons (ps_set (i := 7) sc_law.nd rfl (by first | exact Or.inl rfl | exact Or.inr rfl) (pe_callS G__law_copy (hr.mono (by first | decide | omega)) (by rfl) T.d__law_copy.g T.d__law_copy.F.kp T.d__law_copy.b (fun σ => L2N.passAt (L2N.takes_of rfl rfl rfl rfl) σ) (pa_cons (pv 6) pa_nil)))
      (pss_one (ps_if (PW.pt (pw_or (pt_not (pt_val (pe_callS G__law_same (hr.mono (by first | decide | omega)) (by rfl) T.d__law_same.g T.d__law_same.F.kp T.d__law_same.b (fun σ => L2N.passAt (L2N.takes_of rfl rfl rfl rfl) σ) (pa_cons (pe_callS G_is_name (hr.mono (by first | decide | omega)) (by rfl) T.d_is_name.g T.d_is_name.F.kp T.d_is_name.b (fun σ => L2N.passAt (L2N.takes_of rfl rfl rfl rfl) σ) (pa_cons (pv 6) pa_nil)) (pa_cons (pe_callS G__law_named (hr.mono (by first | decide | omega)) (by rfl) T.d__law_named.g T.d__law_named.F.kp T.d__law_named.b (fun σ => L2N.passAt (L2N.takes_of rfl rfl rfl rfl) σ) (pa_cons (pv 7) pa_nil)) pa_nil))))) (pw_or1 (pt_not (pt_val (pe_callS G__law_same (hr.mono (by first | decide | omega)) (by rfl) T.d__law_same.g T.d__law_same.F.kp T.d__law_same.b (fun σ => L2N.passAt (L2N.takes_of rfl rfl rfl rfl) σ) (pa_cons (pv 6) (pa_cons (pv 7) pa_nil)))))))) (pss_one (ps_ret pe_bl)) pss_nil))))
      (pss_cons (ps_set (i := 8) sc_law.nd rfl (by first | exact Or.inl rfl | exact Or.inr rfl) (pe_callS G__law_name (hr.mono (by first | decide | omega)) (by rfl) T.d__law_name.g T.d__law_name.F.kp T.d__law_name.b (fun σ => L2N.passAt (L2N.takes_of rfl rfl rfl rfl) σ) (pa_cons (pv 1) pa_nil)))
      (pss_one (ps_ret (pe_and (pe_cmpR op_isBl (pe_callS G_is_name (hr.mono (by first | decide | omega)) (by rfl) T.d_is_name.g T.d_is_name.F.kp T.d_is_name.b (fun σ => L2N.passAt (L2N.takes_of rfl rfl rfl rfl) σ) (pa_cons (pv 8) pa_nil)) pe_bl (nomark _)) (pe_and (pe_cmpR op_isBl (pe_callS G_is_name (hr.mono (by first | decide | omega)) (by rfl) T.d_is_name.g T.d_is_name.F.kp T.d_is_name.b (fun σ => L2N.passAt (L2N.takes_of rfl rfl rfl rfl) σ) (pa_cons (Vb.pe_upperN (pv 8)) pa_nil)) pe_bl (nomark _)) (pe_one (pe_callS G__law_splits (hr.mono (by first | decide | omega)) (by rfl) T.d__law_splits.g T.d__law_splits.F.kp T.d__law_splits.b (fun σ => L2N.passAt (L2N.takes_of rfl rfl rfl rfl) σ) (pa_cons (pe_op Vb.op_addS (pe_op Vb.op_addS (pv 8) pe_str) (pv 8)) pa_nil))))))))))))))))))), ?_⟩
    (change (_ : L2.TS) _ ([some (.ref a), none, none, none, none, none, none, none, none, none] : L2.St) _); try dsimp only [L2.cxOf, L2H.cxH]
    walk_at "rd"
    refine ⟨a, ns, rfl, ha, by omega, fun st H1 n1 e1 S1 => ?_⟩
    walk_at "rd"
    refine use_txt S1 fun x H2 hx f2 S2 => ?_
    walk_at "rd"
    refine ⟨Vb.size_ok (by show 1 ≤ 16777216; decide), fun l3 n3 => ?_⟩
    have t3 := TxL.new (n := 200000) [x] S2 n3 fun y m => by rw [List.mem_singleton.mp m]; omega
    have S3 := S2.same (Vb.same_new (o := .lst ([x].map V.str)) n3)
    walk_at "rd"
    intro D4 hD4
    refine Vb.lcw_range (fun i H' => ∃ ys, StS 200000 st D4 i _ H' ys) ⟨[], StS.nil S3 hD4⟩ (fun x => rfl) ?_ ?_
    · rintro i H' hi ⟨ys, v⟩
      have hi4 : i < 4 := hi
      walk_at "rd"
      refine ⟨st, x, rfl, v.S, by omega, fun z H4 hz f4 S4 => ?_⟩
      replace v := v.fr f4 S4
      exact ⟨_, v.h, Vb.size_lt (by rw [List.length_map, v.c]; omega), _, v.app (by omega)⟩
    rintro H4 ⟨y4, v4⟩
    have t3' := t3.fr v4.f
    have u4 := v4.tx
    have S4 := v4.S
    refine Vb.r_cat t3'.h u4.h (Vb.size_ok (by rw [t3'.sz, u4.sz]; show 1 + 4 ≤ 16777216; decide)) fun l5 n5 => ?_
    have t5 := t3'.cat u4 S4 n5
    have S5 := S4.same (Vb.same_new (o := .lst ([x].map V.str ++ y4.map V.str)) n5)
    generalize upd H4 l5 _ = H5 at t5 S5 ⊢
    clear v4 t3 S3 t3' u4 S4 n5 hD4
    have t5h := t5.h
    walk_at "rd"
    intro D6 hD6
    refine Vb.lcw_range (fun i H' => ∃ ys, StS 200000 st D6 i H5 H' ys) ⟨[], StS.nil S5 hD6⟩ (fun x => rfl) ?_ ?_
    · rintro i H' hi ⟨ys, v⟩
      have hi3 : i < 3 := hi
      walk_at "rd"
      refine use_edge v.S (by decide) fun k H6 k1 k2 _ f6 S6 => ?_
      have k3 := k2 (by decide)
      walk_at "rd"
      refine use_text S6 ⟨k1, by omega⟩ fun z H7 hz f7 S7 => ?_
      replace v := (v.fr f6 S6).fr f7 S7
      exact ⟨_, v.h, Vb.size_lt (by rw [List.length_map, v.c]; omega), _, v.app (by omega)⟩
    rintro H6 ⟨y6, v6⟩
    have t5' := t5.fr v6.f
    have u6 := v6.tx
    have S6 := v6.S
    refine Vb.r_cat t5'.h u6.h (Vb.size_ok (by rw [t5'.sz, u6.sz]; show 1 + 4 + 3 ≤ 16777216; decide)) fun l7 n7 => ?_
    have t7 := t5'.cat u6 S6 n7
    have S7 := S6.same (Vb.same_new (o := .lst (([x] ++ y4).map V.str ++ y6.map V.str)) n7)
    generalize upd H6 l7 _ = H7 at t7 S7 ⊢
    clear v6 t5 t5h S5 t5' u6 S6 n7 hD6
    have t7h := t7.h
    walk_at "rd"
    intro D8 hD8
    refine Vb.lcw_range (fun i H' => ∃ ys, StS 200000 st D8 i H7 H' ys) ⟨[], StS.nil S7 hD8⟩ (fun x => rfl) ?_ ?_
    · rintro i H' hi ⟨ys, v⟩
      have hi3 : i < 5 := hi
      walk_at "rd"
      refine use_edge v.S (by decide) fun k H6 k1 k2 _ f6 S6 => ?_
      have k3 := k2 (by decide)
      walk_at "rd"
      refine use_text S6 ⟨k1, by omega⟩ fun z H7 hz f7 S7 => ?_
      replace v := (v.fr f6 S6).fr f7 S7
      exact ⟨_, v.h, Vb.size_lt (by rw [List.length_map, v.c]; omega), _, v.app (by omega)⟩
    rintro H8 ⟨y8, v8⟩
    have t7' := t7.fr v8.f
    have u8 := v8.tx
    have S8 := v8.S
    refine Vb.r_cat t7'.h u8.h (Vb.size_ok (by rw [t7'.sz, u8.sz]; show 1 + 4 + 3 + 5 ≤ 16777216; decide)) fun l9 n9 => ?_
    have t9 := t7'.cat u8 S8 n9
    have S9 := S8.same (Vb.same_new (o := .lst ((([x] ++ y4) ++ y6).map V.str ++ y8.map V.str)) n9)
    generalize upd H8 l9 _ = H9 at t9 S9 ⊢
    clear v8 t7 t7h S7 t7' u8 S8 n9 hD8
    have t9h := t9.h
    walk_at "rd"
    refine ⟨Vb.size_ok (by show 7 ≤ 16777216; decide), fun l10 n10 => ?_⟩
    have p10 := TxL.new (n := 200000) [Str.ofString "", Str.ofString " ", Str.ofString "\n", Str.ofString "  ", Str.ofString "a", Str.ofString "a b", Str.ofString "a  b"] S9 n10 fun y m => by
      simp only [List.mem_cons, List.not_mem_nil, or_false] at m
      rcases m with rfl | rfl | rfl | rfl | rfl | rfl | rfl <;> walk_at "ln"
    have f10 := Vb.Fr.of (st := st) (Vb.same_new (o := .lst ([Str.ofString "", Str.ofString " ", Str.ofString "\n", Str.ofString "  ", Str.ofString "a", Str.ofString "a b", Str.ofString "a  b"].map V.str)) n10)
    have S10 := S9.same (Vb.same_new (o := .lst ([Str.ofString "", Str.ofString " ", Str.ofString "\n", Str.ofString "  ", Str.ofString "a", Str.ofString "a b", Str.ofString "a  b"].map V.str)) n10)
    walk_at "rd"
    refine use_pick _ S10 p10.ne (Vb.sq_of p10.h) (by rw [p10.sz]; decide) (by simp) fun i v H11 hi f11 S11 => ?_
    obtain ⟨z11, rfl, hz11⟩ : ∃ z, v = .str z ∧ z.length ≤ 200000 := by
      rw [List.getElem?_map] at hi
      obtain ⟨z, hz, rfl⟩ := Option.map_eq_some_iff.mp hi
      exact ⟨z, rfl, p10.a z (List.mem_of_getElem? hz)⟩
    walk_at "rd"
    refine ⟨Vb.size_ok (by show 3 ≤ 16777216; decide), fun l12 n12 => ?_⟩
    have t11 := t9.fr (f10.trans f11)
    have p12 := TxL.new (n := 200000) [z11, Str.ofString "", x] S11 n12 fun y m => by
      simp only [List.mem_cons, List.not_mem_nil, or_false] at m
      rcases m with rfl | rfl | rfl
      · exact hz11
      · walk_at "ln"
      · omega
    have t12 := t11.fr (Vb.Fr.of (Vb.same_new (o := .lst ([z11, Str.ofString "", x].map V.str)) n12))
    have S12 := S11.same (Vb.same_new (o := .lst ([z11, Str.ofString "", x].map V.str)) n12)
    refine Vb.r_cat t12.h p12.h (Vb.size_ok (by rw [t12.sz, p12.sz]; show 1 + 4 + 3 + 5 + 3 ≤ 16777216; decide)) fun l13 n13 => ?_
    have t13 := t12.cat p12 S12 n13
    have S13 := S12.same (Vb.same_new (o := .lst (((([x] ++ y4) ++ y6) ++ y8).map V.str ++ [z11, Str.ofString "", x].map V.str)) n13)
    generalize hH : upd (upd H11 l12 (HO.lst [V.str z11, V.str (Str.ofString ""), V.str x])) l13 (HO.lst (List.map V.str ([x] ++ y4 ++ y6 ++ y8) ++ List.map V.str [z11, Str.ofString "", x])) = H13
    replace t13 : TxL 200000 _ st l13 H13 _ := hH ▸ t13
    replace S13 : Vb.StoreAt H13 st := hH ▸ S13
    clear hH
    generalize ([x] ++ y4) ++ y6 ++ y8 ++ [z11, Str.ofString "", x] = ts at t13
    clear t12 p12 n12 t11 f11 S12 S11 hi p10 f10 S10 t9 t9h S9 n10 n13
    have t13h := t13.h
    walk_at "rd"
    refine Vb.lp_list (xs := ts.map V.str) (fun i σ H' => Same H13 H' ∧ ∃ z, σ = [some (.ref a), some (.ref st), some (.str x), some (.ref l13), z, none, none, none, none, none]) ⟨Same.refl _, _, rfl⟩ (fun i σ H' _ c => Vb.sq_of (c.1 _ _ t13h)) ?_ ?_
    · rintro i v σ H' hi ⟨e, z, rfl⟩
      rw [List.getElem?_map] at hi
      obtain ⟨y, hy, rfl⟩ := Option.map_eq_some_iff.mp hi
      have hy2 := t13.a y (List.mem_of_getElem? hy)
      walk_at "rd"
      refine ⟨y, rfl, by omega, fun H2 e2 => ?_⟩
      walk_at "rd"
      exact ⟨e.trans e2, _, rfl⟩
    rintro σ H14 ⟨e14, z14, rfl⟩
    have t14 : TxL 200000 16 st l13 H14 ts := t13.fr (Vb.Fr.of e14)
    have S14 := S13.same e14
    clear t13 S13 t13h e14
    walk_at "rd"
    intro D15 hD15
    refine Vb.lcw_range (fun i H' => ∃ ys, StS 200000 st D15 i H14 H' ys) ⟨[], StS.nil S14 hD15⟩ (fun x => rfl) ?_ ?_
    · rintro i H' hi ⟨ys, v⟩
      have hi8 : i < 8 := hi
      walk_at "rd"
      refine use_txt v.S fun z H6 hz f6 S6 => ?_
      replace v := v.fr f6 S6
      exact ⟨_, v.h, Vb.size_lt (by rw [List.length_map, v.c]; omega), _, v.app (by omega)⟩
    rintro H15 ⟨y15, v15⟩
    have S15 := v15.S
    have a15 : VaL K 8 st D15 H15 _ _ := v15.tx.va (by decide)
    have t15 := t14.fr v15.f
    clear v15 t14 S14 hD15
    walk_at "rd"
    refine use_anyval S15 fun vb db H16 hfb f16 S16 hdb => ?_
    walk_at "rd"
    refine use_name S16 fun m1 H17 hm1 f17 S17 => ?_
    walk_at "rd"
    refine use_name S17 fun m2 H18 hm2 f18 S18 => ?_
    walk_at "rd"
    refine ⟨Vb.size_ok (by show 3 ≤ 16777216; decide), fun l19 n19 => ?_⟩
    have b19 := VaL.new (K := K) (ds := [db, .str m1, .str m2]) S18 n19 (.cons (Vb.dp_same (Vb.offs_fr (f17.trans f18) List.mem_cons_self) _ _ hdb) (.cons (.str m1) (.cons (.str m2) .nil))) fun d m => by
      simp only [List.mem_cons, List.not_mem_nil, or_false] at m
      rcases m with rfl | rfl | rfl
      · exact hfb
      · exact flat_str (Nat.le_trans (use_name_len hm1).2 (by decide))
      · exact flat_str (Nat.le_trans (use_name_len hm2).2 (by decide))
    have f19 := f16.trans (f17.trans (f18.trans (Vb.Fr.of (Vb.same_new (o := .lst [vb, .str m1, .str m2]) n19))))
    have a19 := a15.fr f19
    have t19 := t15.fr f19
    have S19 := S18.same (Vb.same_new (o := .lst [vb, .str m1, .str m2]) n19)
    refine Vb.r_cat a19.h b19.h (Vb.size_ok (Nat.le_trans (Nat.add_le_add a19.c b19.c) (show 8 + 3 ≤ 16777216 by decide))) fun l20 n20 => ?_
    have a20 := a19.cat b19 S19 n20
    generalize hH : upd _ l20 _ = H20
    replace a20 := a20.to (k := 11) hH (Nat.le_refl 11)
    have S20 : Vb.StoreAt H20 st := by rw [← hH]; exact S19.same (Vb.same_new n20)
    have t20 : TxL 200000 16 st l13 H20 ts := by rw [← hH]; exact t19.fr (Vb.Fr.of (Vb.same_new n20))
    clear hH a19 b19 t19 S19 f19 a15 t15 hdb n20 n19 f16 f17 f18 S15 S16 S17 S18
    have a20h := a20.h
    walk_at "rd"
    refine Vb.r_slL (Vb.sq_of t20.h) fun l21 n21 => ?_
    obtain ⟨es21, c21⟩ := (t20.va (K := K) (by decide)).cut (lo := some 8) (hi := some 13) S20 n21
    have a21 := a20.fr (Vb.Fr.of (Vb.same_new (o := .lst (cutV (ts.map V.str) (some 8) (some 13))) n21))
    have S21 := S20.same (Vb.same_new (o := .lst (cutV (ts.map V.str) (some 8) (some 13))) n21)
    refine Vb.r_cat a21.h c21.h (Vb.size_ok (Nat.le_trans (Nat.add_le_add a21.c c21.c) (by decide))) fun l22 n22 => ?_
    have a22 := a21.cat c21 S21 n22
    generalize hH : upd _ l22 _ = H22
    replace a22 := a22.to (k := 27) hH (Nat.le_refl 27)
    have S22 : Vb.StoreAt H22 st := by rw [← hH]; exact S21.same (Vb.same_new n22)
    clear hH a21 c21 S21 n21 n22 a20 a20h t20 S20
    walk_at "rd"
    refine ⟨Vb.size_ok (by decide), fun p1 q1 => ?_⟩
    have T1 := Vb.st_new (o := .lst []) S22 q1
    walk_at "rd"
    refine ⟨Vb.size_ok (by show 1 ≤ 16777216; decide), fun p2 q2 => ?_⟩
    have T2 := Vb.st_new (o := .lst [.str (Str.ofString "a")]) T1 q2
    walk_at "rd"
    refine ⟨Vb.size_ok (by show 1 ≤ 16777216; decide), fun p3 q3 => ?_⟩
    have T3 := Vb.st_new (o := .tup [.str (Str.ofString "a")]) T2 q3
    walk_at "rd"
    refine use_letters T3 (by decide) fun w1 H23 w2 _ f23 S23 => ?_
    have hw1 : w1.length ≤ 1000000 := by rw [Vb.sg_len, w2]; decide
    have x1 : H23 p1 = some (.lst []) := f23.k _ _ (S22.ne q1) (by walk_at "hp")
    have x2 : H23 p2 = some (.lst [.str (Str.ofString "a")]) := f23.k _ _ (T1.ne q2) (by walk_at "hp")
    have x3 : H23 p3 = some (.tup [.str (Str.ofString "a")]) := f23.k _ _ (T2.ne q3) (by walk_at "hp")
    have a23 := a22.fr (Vb.Fr.trans (Vb.Fr.of (by walk_at "sm")) f23)
    have k1 : p1 ∉ [st] := fun m => S22.ne q1 (List.mem_singleton.mp m)
    have k2 : p2 ∉ [st] := fun m => T1.ne q2 (List.mem_singleton.mp m)
    have k3 : p3 ∉ [st] := fun m => T2.ne q3 (List.mem_singleton.mp m)
    clear T1 T2 T3 q1 q2 q3 f23 a22 S22
    walk_at "rd"
    refine ⟨Vb.size_ok (by show 8 ≤ 16777216; decide), fun l24 n24 => ?_⟩
    have b24 := VaL.new (K := K) (ds := [.none, .bool true, .int 1, .list [], .list [.str (Str.ofString "a")], .tuple [.str (Str.ofString "a")], .str (Str.ofString ""), .str w1]) S23 n24 (.cons .non (.cons (.bl true) (.cons (.int 1) (.cons (Vb.dp_lst (Vb.offs_of k1 x1) .nil) (.cons (Vb.dp_lst (Vb.offs_of k2 x2) (.cons (.str _) .nil)) (.cons (Vb.dp_tup (Vb.offs_of k3 x3) (.cons (.str _) .nil)) (.cons (.str (Str.ofString "")) (.cons (.str w1) .nil)))))))) fun d m => by
      simp only [List.mem_cons, List.not_mem_nil, or_false] at m
      rcases m with rfl | rfl | rfl | rfl | rfl | rfl | rfl | rfl
      · exact ⟨fun s e => (by cases e), trivial⟩
      · exact ⟨fun s e => (by cases e), trivial⟩
      · exact ⟨fun s e => (by cases e), trivial⟩
      · exact ⟨fun s e => (by cases e), by simp [Vb.DOk]⟩
      · exact ⟨fun s e => (by cases e), by simp [Vb.DOk]⟩
      · exact ⟨fun s e => (by cases e), by simp [Vb.DOk]⟩
      · exact flat_str (by walk_at "ln")
      · exact flat_str hw1
    have a24 := a23.fr (Vb.Fr.of (Vb.same_new (o := .lst [.non, .bl true, .int 1, .ref p1, .ref p2, .ref p3, .str (Str.ofString ""), .str w1]) n24))
    have S24 := S23.same (Vb.same_new (o := .lst [.non, .bl true, .int 1, .ref p1, .ref p2, .ref p3, .str (Str.ofString ""), .str w1]) n24)
    refine Vb.r_cat a24.h b24.h (Vb.size_ok (Nat.le_trans (Nat.add_le_add a24.c b24.c) (show 27 + 8 ≤ 16777216 by decide))) fun l25 n25 => ?_
    have a25 := a24.cat b24 S24 n25
    generalize hH : upd _ l25 _ = H25
    replace a25 := a25.to (k := 35) hH (Nat.le_refl 35)
    have S25 : Vb.StoreAt H25 st := by rw [← hH]; exact S24.same (Vb.same_new n25)
    clear hH a24 b24 S24 n25 n24 x1 x2 x3 a23 S23 k1 k2 k3
    walk_at "rd"
    refine use_letters S25 (by decide) fun w3 H26 w4 _ f26 S26 => ?_
    walk_at "rd"
    refine use_letters S26 (by decide) fun w5 H27 w6 _ f27 S27 => ?_
    have hw3 : w3.length ≤ 1000000 := by rw [Vb.sg_len, w4]; decide
    have hw5 : w5.length ≤ 1000000 := by rw [Vb.sg_len, w6]; decide
    walk_at "rd"
    refine use_name S27 fun m3 H28 hm3 f28 S28 => ?_
    have hm4 := (use_name_len hm3).2
    walk_at "rd"
    refine Vb.r_mulS (z := Str.ofString "a") (k := 12) ⟨by decide, by decide, by rw [Vb.len_lit]; decide⟩ ?_
    have hm5 : (Txt.mul (Str.ofString "a") 12).length ≤ 1000000 := Nat.le_trans (Vb.mul_len _ _) (by rw [Vb.len_lit]; decide)
    generalize Txt.mul (Str.ofString "a") 12 = w7 at hm5 ⊢
    walk_at "rd"
    refine ⟨Vb.size_ok (by show 5 ≤ 16777216; decide), fun l29 n29 => ?_⟩
    have b29 := VaL.new (K := K) (ds := [.str w3, .str w5, .str (m3 ++ Str.ofString "\n"), .str (Str.ofString "7"), .str w7]) S28 n29 (.cons (.str w3) (.cons (.str w5) (.cons (.str (m3 ++ Str.ofString "\n")) (.cons (.str (Str.ofString "7")) (.cons (.str w7) .nil))))) fun d m => by
      simp only [List.mem_cons, List.not_mem_nil, or_false] at m
      rcases m with rfl | rfl | rfl | rfl | rfl
      · exact flat_str hw3
      · exact flat_str hw5
      · exact flat_str (by walk_at "ln")
      · exact flat_str (by walk_at "ln")
      · exact flat_str hm5
    have a29 := a25.fr (f26.trans (f27.trans (f28.trans (Vb.Fr.of (Vb.same_new (o := .lst [.str w3, .str w5, .str (m3 ++ Str.ofString "\n"), .str (Str.ofString "7"), .str w7]) n29)))))
    have S29 := S28.same (Vb.same_new (o := .lst [.str w3, .str w5, .str (m3 ++ Str.ofString "\n"), .str (Str.ofString "7"), .str w7]) n29)
    refine Vb.r_cat a29.h b29.h (Vb.size_ok (Nat.le_trans (Nat.add_le_add a29.c b29.c) (show 35 + 5 ≤ 16777216 by decide))) fun l30 n30 => ?_
    have a30 := a29.cat b29 S29 n30
    generalize hH : upd _ l30 _ = H30
    replace a30 := a30.to (k := 40) hH (Nat.le_refl 40)
    have S30 : Vb.StoreAt H30 st := by rw [← hH]; exact S29.same (Vb.same_new n30)
    clear hH a29 b29 S29 n30 n29 f26 f27 f28 a25 S25 S26 S27 S28
    obtain ⟨xs30, ds30, a30⟩ : ∃ xs ds, VaL K 40 st l30 H30 xs ds := ⟨_, _, a30⟩
    have a30h := a30.h
    walk_at "rd"
    refine Vb.r_slL (Vb.sq_of a30.h) fun l31 n31 => ?_
    obtain ⟨es31, c31⟩ := a30.cut (lo := none) (hi := some 4) S30 n31
    have a31 := a30.fr (Vb.Fr.of (Vb.same_new (o := .lst (cutV xs30 none (some 4))) n31))
    have S31 := S30.same (Vb.same_new (o := .lst (cutV xs30 none (some 4))) n31)
    refine Vb.r_cat a31.h c31.h (Vb.size_ok (Nat.le_trans (Nat.add_le_add a31.c c31.c) (by decide))) fun l32 n32 => ?_
    have a32 := a31.cat c31 S31 n32
    generalize hH : upd _ l32 _ = H32
    replace a32 := a32.to (k := 80) hH (Nat.le_refl 80)
    have S32 : Vb.StoreAt H32 st := by rw [← hH]; exact S31.same (Vb.same_new n32)
    clear hH a31 c31 S31 n31 n32 a30 a30h S30
    obtain ⟨xs, ds, a32⟩ : ∃ xs ds, VaL K 80 st l32 H32 xs ds := ⟨_, _, a32⟩
    have h32 := a32.h
    walk_at "rd"
    refine Vb.lp_list (xs := xs) (fun i σ H' => Same H32 H' ∧ ∃ y z, σ = [some (.ref a), some (.ref st), some (.str x), some (.ref l13), z14, some (.ref l30), y, z, none, none]) ⟨Same.refl _, _, _, rfl⟩ (fun i σ H' _ c => Vb.sq_of (c.1 _ _ h32)) ?_ ?_
    · rintro i v σ H' hi ⟨e, y, z, rfl⟩
      obtain ⟨d, g1, g2⟩ := Vb.dpa_get a32.d hi
      have gd : Dp K H' v d := Vb.dp_same e _ _ (Vb.dp_off g2)
      obtain ⟨d1, d2⟩ := a32.a d (List.mem_of_getElem? g1)
      have d3 := Vb.dok_up _ _ d2
      walk_at "rd"
      refine ⟨v, d, [], rfl, Vb.Trk.nil, Vb.dp_same Vb.offs_nil _ _ gd, d3, fun v' H2 e2 g3 => ?_⟩
      have g4 := Vb.dp_off g3
      walk_at "rd"
      refine ⟨v, d, rfl, Vb.dp_same e2 _ _ gd, d1, fun H3 e3 => ?_⟩
      walk_at "rd"
      refine ⟨v', d, rfl, Vb.dp_same e3 _ _ g4, d1, ?_⟩
      walk_at "rd"
      refine use_same (.bool (nameD d)) (.bl _) (.bl _) trivial ?_
      walk_at "rd"
      refine use_same d (Vb.dp_same (e2.trans e3) _ _ gd) (Vb.dp_same e3 _ _ g4) d3 ?_
      walk_at "rd"
      exact ⟨(e.trans e2).trans e3, _, _, rfl⟩
    · rintro σ H33 ⟨e33, y, z, rfl⟩
      walk_at "rd"
      refine use_name (S32.same e33) fun m5 H34 hm5 f34 S34 => ?_
      have hm6 := (use_name_len hm5).2
      walk_at "rd"
      refine ⟨.str m5, .str m5, rfl, .str m5, (fun s e => by cases e; omega), fun H35 e35 => ?_⟩
      rw [show nameD (.str m5) = true from hm5]
      walk_at "rd"
      refine Vb.r_ite (fun _ => ?_) (fun z => absurd rfl z)
      walk_at "rd"
      refine Vb.r_upper (a := m5) (by omega) ?_
      walk_at "rd"
      refine ⟨.str (Txt.upper m5), .str (Txt.upper m5), rfl, .str _, (fun s e => by cases e; exact Nat.le_trans (len_upper m5) (by omega)), fun H36 e36 => ?_⟩
      rw [show nameD (.str (Txt.upper m5)) = false from upper_no hm5]
      walk_at "rd"
      refine Vb.r_ite (fun _ => ?_) (fun z => absurd rfl z)
      walk_at "rd"
      refine ⟨_, rfl, by simp only [Vb.len_app, Vb.len_lit, String.reduceToList, List.length_cons, List.length_nil]; omega, fun H37 e37 => ?_⟩
      exact q _
end
end K
set_option maxHeartbeats 0
open PySem PySem.Spec PyProof.Rows L2 in
theorem K.fin {P : Program} {w : World} {K : PySem.W.Frag} {mg : Str → Option Value} {fa : Addr} (hfa : mg "law" = some (.ref fa)) (T : _root_.K.Txt K mg) (hb : ∀ (s : Shared) (v : Value), BindsTo s T.fd_law ⟨[v], []⟩ [("script", v)]) : ∃ fd : FuncData, (∀ (s : Shared) (v : Value), BindsTo s fd ⟨[v], []⟩ [("script", v)]) ∧ ∀ base : Heap, K.In base → base.Ns mainGlobals mg → FnOk P w K mg base (L2N.CX P w) 8 fa fd ["script"] (_root_.K.sp_law K) := by
  have e := hfa.symm.trans T.d_law.g
  cases e
  exact ⟨T.fd_law, hb, fun base _ _ => _root_.K.ok_law T⟩
open PySem PySem.W PyProof.Rows
theorem PySem.Challenge.cw_sumtalk_k06_words_split_and_named_holds : PySem.Challenge.rw_sumtalk_k06_words_split_and_named.Holds := by
  w_on; o_law; k_head; (case hw => w_witness2)
  k_fill
  refine L2.walk_of (l := PySem.Challenge.rw_sumtalk_k06_words_split_and_named) (n := 63) (k := 8) (x := "script") (CX := fun w => L2N.CX PySem.Challenge.rw_sumtalk_k06_words_split_and_named.prog w) (sp := fun w => K.sp_law _) rfl (by decide) rfl ⟨rfl, by decide, by decide⟩ (fun w h Y => PySem.W.kIn_of Y) ?F (fun _ _ a ns hl _ hS => ⟨a, ns, rfl, hS, hl, fun _ => rfl⟩) (fun _ _ _ _ _ h => by obtain ⟨_, _, _, _, _, _, _, _, _, _, _, _, z⟩ := h; exact z)
  case F =>
    intro w mg fa h KX G hmg
    obtain ⟨t_LETTERS, c_LETTERS⟩ : ∃ t, mg "LETTERS" = some (.str (Str.ofString "abcdefghijklmnopqrstuvwxyz") t) := Vb.tokS_mk KX G (by k_is)
    obtain ⟨t_FIGURES, c_FIGURES⟩ : ∃ t, mg "FIGURES" = some (.str (Str.ofString "0123456789") t) := Vb.tokS_mk KX G (by k_is)
    obtain ⟨t_MAX_NAME, c_MAX_NAME⟩ : ∃ t, mg "MAX_NAME" = some (.int 12 t) := Vb.tok_mk KX G (by k_is)
    refine' K.fin hmg (K.Txt.mk
      _
      ⟨(PySem.W.mg_of KX G ?a_TalkError), ?q_TalkError, ?k_TalkError, ?e_TalkError, ?t_TalkError⟩
      _
      ⟨(PySem.W.mg_of KX G ?a_OutOfRange), ?q_OutOfRange, ?k_OutOfRange, ?e_OutOfRange, ?t_OutOfRange⟩
      _
      ⟨(PySem.W.mg_of KX G ?a_TooLarge), ?q_TooLarge, ?k_TooLarge, ?e_TooLarge, ?t_TooLarge⟩
      _
      ⟨(PySem.W.mg_of KX G ?a_BadText), ?q_BadText, ?k_BadText, ?e_BadText, ?t_BadText⟩
      _
      (PySem.W.mg_of KX G ?a_BadName)
      _
      (PySem.W.mg_of KX G ?a_NoSuchName)
      ⟨?xcl_BadText, ?xga_BadText, ?xgg_BadText, ?xsb_BadText, ?xca_BadText, ?xsp_BadText, ?xtk_BadText, ?xmo_BadText, ?xhd_BadText, ?xss_BadText, ?xty_BadText⟩
      (Vb.kit_no ?i_BadText_TooLarge ?y_BadText_TooLarge ?s_BadText_TooLarge ?ne_BadText_TooLarge)
      (Vb.kit_no ?i_BadText_NoSuchName ?y_BadText_NoSuchName ?s_BadText_NoSuchName ?ne_BadText_NoSuchName)
      (Vb.kit_no ?i_BadText_BadName ?y_BadText_BadName ?s_BadText_BadName ?ne_BadText_BadName)
      (Vb.kit_no ?i_BadText_OutOfRange ?y_BadText_OutOfRange ?s_BadText_OutOfRange ?ne_BadText_OutOfRange)
      (Vb.kit_yes ?i_BadText_TalkError ?y_BadText_TalkError ?s_BadText_TalkError)
      (Vb.kit_blt ?m_BadText_ValueError ?s_BadText_ValueError)
      _
      _
      (Vb.dn_mk (PySem.W.mg_of KX G ?a_is_name) ?l_is_name ?c_is_name ?k_is_name fun _ _ _ _ _ _ us hl => match us, hl with | [_], _ => rfl)
      _
      _
      (Vb.dn_mk (PySem.W.mg_of KX G ?a_split_words) ?l_split_words ?c_split_words ?k_split_words fun _ _ _ _ _ _ us hl => match us, hl with | [_], _ => rfl)
      _
      _
      (Vb.dn_mk (PySem.W.mg_of KX G ?a__law_mix) ?l__law_mix ?c__law_mix ?k__law_mix fun _ _ _ _ _ _ us hl => match us, hl with | [_, _], _ => rfl)
      _
      _
      (Vb.dn_mk (PySem.W.mg_of KX G ?a__law_store) ?l__law_store ?c__law_store ?k__law_store fun _ _ _ _ _ _ us hl => match us, hl with | [_], _ => rfl)
      _
      _
      (Vb.dn_mk (PySem.W.mg_of KX G ?a__law_take) ?l__law_take ?c__law_take ?k__law_take fun _ _ _ _ _ _ us hl => match us, hl with | [_, _], _ => rfl)
      _
      _
      (Vb.dn_mk (PySem.W.mg_of KX G ?a__law_edge) ?l__law_edge ?c__law_edge ?k__law_edge fun _ _ _ _ _ _ us hl => match us, hl with | [_, _, _], _ => rfl)
      _
      _
      (Vb.dn_mk (PySem.W.mg_of KX G ?a__law_chance) ?l__law_chance ?c__law_chance ?k__law_chance fun _ _ _ _ _ _ us hl => match us, hl with | [_, _], _ => rfl)
      _
      _
      (Vb.dn_mk (PySem.W.mg_of KX G ?a__law_pick) ?l__law_pick ?c__law_pick ?k__law_pick fun _ _ _ _ _ _ us hl => match us, hl with | [_, _], _ => rfl)
      _
      _
      (Vb.dn_mk (PySem.W.mg_of KX G ?a__law_same) ?l__law_same ?c__law_same ?k__law_same fun _ _ _ _ _ _ us hl => match us, hl with | [_, _], _ => rfl)
      _
      _
      (Vb.dn_mk (PySem.W.mg_of KX G ?a__law_copy) ?l__law_copy ?c__law_copy ?k__law_copy fun _ _ _ _ _ _ us hl => match us, hl with | [_], _ => rfl)
      _
      _
      (Vb.dn_mk (PySem.W.mg_of KX G ?a__law_spoil_list) ?l__law_spoil_list ?c__law_spoil_list ?k__law_spoil_list fun _ _ _ _ _ _ us hl => match us, hl with | [_], _ => rfl)
      _
      _
      (Vb.dn_mk (PySem.W.mg_of KX G ?a__law_letters) ?l__law_letters ?c__law_letters ?k__law_letters fun _ _ _ _ _ _ us hl => match us, hl with | [_, _], _ => rfl)
      _
      _
      (Vb.dn_mk (PySem.W.mg_of KX G ?a__law_name) ?l__law_name ?c__law_name ?k__law_name fun _ _ _ _ _ _ us hl => match us, hl with | [_], _ => rfl)
      _
      _
      (Vb.dn_mk (PySem.W.mg_of KX G ?a__law_bad_name) ?l__law_bad_name ?c__law_bad_name ?k__law_bad_name fun _ _ _ _ _ _ us hl => match us, hl with | [_], _ => rfl)
      _
      _
      (Vb.dn_mk (PySem.W.mg_of KX G ?a__law_text) ?l__law_text ?c__law_text ?k__law_text fun _ _ _ _ _ _ us hl => match us, hl with | [_, _], _ => rfl)
      _
      _
      (Vb.dn_mk (PySem.W.mg_of KX G ?a__law_words_due) ?l__law_words_due ?c__law_words_due ?k__law_words_due fun _ _ _ _ _ _ us hl => match us, hl with | [_], _ => rfl)
      _
      _
      (Vb.dn_mk (PySem.W.mg_of KX G ?a__law_splits) ?l__law_splits ?c__law_splits ?k__law_splits fun _ _ _ _ _ _ us hl => match us, hl with | [_], _ => rfl)
      _
      _
      (Vb.dn_mk (PySem.W.mg_of KX G ?a__law_named) ?l__law_named ?c__law_named ?k__law_named fun _ _ _ _ _ _ us hl => match us, hl with | [_], _ => rfl)
      _
      _
      (Vb.dn_mk (PySem.W.mg_of KX G ?a__law_word) ?l__law_word ?c__law_word ?k__law_word fun _ _ _ _ _ _ us hl => match us, hl with | [_, _], _ => rfl)
      _
      _
      (Vb.dn_mk (PySem.W.mg_of KX G ?a__law_joined) ?l__law_joined ?c__law_joined ?k__law_joined fun _ _ _ _ _ _ us hl => match us, hl with | [_], _ => rfl)
      _
      _
      (Vb.dn_mk (PySem.W.mg_of KX G ?a__law_bent) ?l__law_bent ?c__law_bent ?k__law_bent fun _ _ _ _ _ _ us hl => match us, hl with | [_, _], _ => rfl)
      _
      _
      (Vb.dn_mk (PySem.W.mg_of KX G ?a__law_near_name) ?l__law_near_name ?c__law_near_name ?k__law_near_name fun _ _ _ _ _ _ us hl => match us, hl with | [_], _ => rfl)
      _
      _
      (Vb.dn_mk (PySem.W.mg_of KX G ?a_law) ?l_law ?c_law ?k_law fun _ _ _ _ _ _ us hl => match us, hl with | [_], _ => rfl)
      t_LETTERS
      c_LETTERS
      t_FIGURES
      c_FIGURES
      t_MAX_NAME
      c_MAX_NAME
      (PySem.W.mg_none_of KX G ?n_ValueError)
      (PySem.W.mg_none_of KX G ?n_max)
      (PySem.W.mg_none_of KX G ?n_isinstance)
      (PySem.W.mg_none_of KX G ?n_int)
      (PySem.W.mg_none_of KX G ?n_str)
      (PySem.W.mg_none_of KX G ?n_list)
      (PySem.W.mg_none_of KX G ?n_range)
      (PySem.W.mg_none_of KX G ?n_tuple)
      (PySem.W.mg_none_of KX G ?n_all)
      (PySem.W.mg_none_of KX G ?n_len)
      (PySem.W.mg_none_of KX G ?n_bool)
      (PySem.W.mg_none_of KX G ?n_abs)
      (PySem.W.mg_none_of KX G ?n_min)) ?hb
    (case a_TalkError => k_is)
    (case q_TalkError => k_exc)
    (case k_TalkError => k_is)
    (case e_TalkError => k_is)
    (case t_TalkError => k_is)
    (case a_OutOfRange => k_is)
    (case q_OutOfRange => k_exc)
    (case k_OutOfRange => k_is)
    (case e_OutOfRange => k_is)
    (case t_OutOfRange => k_is)
    (case a_TooLarge => k_is)
    (case q_TooLarge => k_exc)
    (case k_TooLarge => k_is)
    (case e_TooLarge => k_is)
    (case t_TooLarge => k_is)
    (case a_BadText => k_is)
    (case q_BadText => k_exc)
    (case k_BadText => k_is)
    (case e_BadText => k_is)
    (case t_BadText => k_is)
    (case a_BadName => k_is)
    (case a_NoSuchName => k_is)
    (case xcl_BadText => k_is)
    (case xga_BadText => k_is)
    (case xgg_BadText => k_is)
    (case xsb_BadText => k_is)
    (case xca_BadText => k_is)
    (case xsp_BadText => k_is)
    (case xtk_BadText => k_is)
    (case xmo_BadText => k_is)
    (case xhd_BadText => k_is)
    (case xss_BadText => k_is)
    (case xty_BadText => k_is)
    (case i_BadText_TooLarge => k_is)
    (case y_BadText_TooLarge => k_is)
    (case s_BadText_TooLarge => k_is)
    (case ne_BadText_TooLarge => decide)
    (case i_BadText_NoSuchName => k_is)
    (case y_BadText_NoSuchName => k_is)
    (case s_BadText_NoSuchName => k_is)
    (case ne_BadText_NoSuchName => decide)
    (case i_BadText_BadName => k_is)
    (case y_BadText_BadName => k_is)
    (case s_BadText_BadName => k_is)
    (case ne_BadText_BadName => decide)
    (case i_BadText_OutOfRange => k_is)
    (case y_BadText_OutOfRange => k_is)
    (case s_BadText_OutOfRange => k_is)
    (case ne_BadText_OutOfRange => decide)
    (case i_BadText_TalkError => k_is)
    (case y_BadText_TalkError => k_is)
    (case s_BadText_TalkError => k_is)
    (case m_BadText_ValueError => decide +kernel)
    (case s_BadText_ValueError => k_is)
    (case a_is_name => k_is)
    (case l_is_name => k_is)
    (case c_is_name => k_is)
    (case k_is_name => k_is)
    (case a_split_words => k_is)
    (case l_split_words => k_is)
    (case c_split_words => k_is)
    (case k_split_words => k_is)
    (case a__law_mix => k_is)
    (case l__law_mix => k_is)
    (case c__law_mix => k_is)
    (case k__law_mix => k_is)
    (case a__law_store => k_is)
    (case l__law_store => k_is)
    (case c__law_store => k_is)
    (case k__law_store => k_is)
    (case a__law_take => k_is)
    (case l__law_take => k_is)
    (case c__law_take => k_is)
    (case k__law_take => k_is)
    (case a__law_edge => k_is)
    (case l__law_edge => k_is)
    (case c__law_edge => k_is)
    (case k__law_edge => k_is)
    (case a__law_chance => k_is)
    (case l__law_chance => k_is)
    (case c__law_chance => k_is)
    (case k__law_chance => k_is)
    (case a__law_pick => k_is)
    (case l__law_pick => k_is)
    (case c__law_pick => k_is)
    (case k__law_pick => k_is)
    (case a__law_same => k_is)
    (case l__law_same => k_is)
    (case c__law_same => k_is)
    (case k__law_same => k_is)
    (case a__law_copy => k_is)
    (case l__law_copy => k_is)
    (case c__law_copy => k_is)
    (case k__law_copy => k_is)
    (case a__law_spoil_list => k_is)
    (case l__law_spoil_list => k_is)
    (case c__law_spoil_list => k_is)
    (case k__law_spoil_list => k_is)
    (case a__law_letters => k_is)
    (case l__law_letters => k_is)
    (case c__law_letters => k_is)
    (case k__law_letters => k_is)
    (case a__law_name => k_is)
    (case l__law_name => k_is)
    (case c__law_name => k_is)
    (case k__law_name => k_is)
    (case a__law_bad_name => k_is)
    (case l__law_bad_name => k_is)
    (case c__law_bad_name => k_is)
    (case k__law_bad_name => k_is)
    (case a__law_text => k_is)
    (case l__law_text => k_is)
    (case c__law_text => k_is)
    (case k__law_text => k_is)
    (case a__law_words_due => k_is)
    (case l__law_words_due => k_is)
    (case c__law_words_due => k_is)
    (case k__law_words_due => k_is)
    (case a__law_splits => k_is)
    (case l__law_splits => k_is)
    (case c__law_splits => k_is)
    (case k__law_splits => k_is)
    (case a__law_named => k_is)
    (case l__law_named => k_is)
    (case c__law_named => k_is)
    (case k__law_named => k_is)
    (case a__law_word => k_is)
    (case l__law_word => k_is)
    (case c__law_word => k_is)
    (case k__law_word => k_is)
    (case a__law_joined => k_is)
    (case l__law_joined => k_is)
    (case c__law_joined => k_is)
    (case k__law_joined => k_is)
    (case a__law_bent => k_is)
    (case l__law_bent => k_is)
    (case c__law_bent => k_is)
    (case k__law_bent => k_is)
    (case a__law_near_name => k_is)
    (case l__law_near_name => k_is)
    (case c__law_near_name => k_is)
    (case k__law_near_name => k_is)
    (case a_law => k_is)
    (case l_law => k_is)
    (case c_law => k_is)
    (case k_law => k_is)
    (case n_ValueError => k_is)
    (case n_max => k_is)
    (case n_isinstance => k_is)
    (case n_int => k_is)
    (case n_str => k_is)
    (case n_list => k_is)
    (case n_range => k_is)
    (case n_tuple => k_is)
    (case n_all => k_is)
    (case n_len => k_is)
    (case n_bool => k_is)
    (case n_abs => k_is)
    (case n_min => k_is)
    (case hb => exact fun s v => .of_eq rfl)
