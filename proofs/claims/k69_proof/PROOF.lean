import PyProof.Rows.All
import Wide.All
import OpenK.AllK
import Wide.FinOn
import HandS.ForMost
import HandS.Exc
import HandS.ExcCtx
import HandS.ExcField
import HandS.ExcIs
import HandS.IsInst
import HandS.HotCalls
import HandS.Wide
import HandS.Style
import KE.KExcIs
import HandS.Evl
import HandS.Conv
import PyProof.LongRange
import HandS.TupAny
import HandS.TupMul
import HandS.TupLe
import HandS.StrMore
import HandS.StrSplit
import HandS.FStr
import HandS.Text
import HandS.Iter
import PyProof.StrBlock2
import KE.GoesMore
import HandS.Property
import HandS.IterNext
import HandS.IterVal
import HandS.OwnIter
import HandS.OwnEq
import PyProof.WalksMore
import HandS.SetFor
import PyProof.SetRoads
import KE.GoesZip
import PySem.Challenge.RW_sumtalk_k69_residues_undo
import KE.KEqDeep
set_option Elab.async false
set_option linter.all false
set_option maxRecDepth 100000
set_option maxHeartbeats 4000000
/-! an own error with one field, value: what the written part says of its class, and its making -/
namespace PySem
namespace Lowvalue
open PySem.W PySem.Calls PyProof.Rows PySem.HandSPX
def iA (p1 p2 : Pos) : Arguments := { posonlyargs := [], args := [{ arg := "self", annotation := none, pos := p1 }, { arg := "value", annotation := none, pos := p2 }], vararg := none, kwonlyargs := [], kw_defaults := [], kwarg := none, defaults := [] }
def iB (q1 q2 q3 q4 : Pos) : List Stmt := [.Assign [.Attribute (.Name "self" q1) "value" q2] (.Name "value" q3) q4]
def iS : Scope := { kind := .function, names := [(PySem.Str.ofString "self", .local), (PySem.Str.ofString "value", .local)], isGenerator := false, isCoroutine := false, more := [] }
/-- the class x at C, its __init__ (qn) at fI -/
structure LowTxt (K : Frag) (mg : Str → Option Value) (x qn : Str) (C fI : Addr) : Prop where
  g : mg x = some (.ref C)
  cls : ∃ nm q N bs bm sn sub ab col dd k0 k1 k2 k3 k5, K.lookup C = some (excClassObj nm q C N bs bm true sn sub ab col dd k0 k1 k2 k3 k5 "ValueError.__new__") ∧ refsVE bm = true
  sa : findIn K (.ref C) "__setattr__" = some (some (.builtin "object.__setattr__"))
  noN : findIn K (.ref C) "value" = some none
  iC : findIn K (.ref C) "__init__" = some (some (.ref fI))
  tC : typeIn K (.ref fI) = some (.type "function")
  kC : keepIn K (.ref C) = true
  exC : subIn K (.ref C) (.type "BaseException") = some true
  tyC : typeIn K (.ref C) = some (.type "type")
  fn : ∃ (oc : Value) (od : Option Addr) (kV doc pm : Value) (an : Option Addr) (cdv ct : Value) (osl : Array (Option Value)) (p1 p2 q1 q2 q3 q4 : Pos),
    K.lookup fI = some ⟨oc, od, .func (fnOf "__init__" qn (iA p1 p2) (iB q1 q2 q3 q4) iS .none kV doc pm an cdv ct), osl⟩ ∧ codeIn K cdv qn = true
theorem one_size (v : Value) : [v].length ≤ sizeLine := by
  rw [sizeLine_eq]
  exact (by decide : 1 ≤ 16777216)
theorem ldC {M : Model} {s : Shared} {name : Str} {scope : Scope} {L a : Addr} {cd : Value} {m : Str → Option Value} {x : Str} {pos : Pos} {v : Value} {Q : Value → Shared → Prop} {A : Around} {E : Value → Shared → Prop} (hn : s.heap.Ns L m) (hv : m x = some v) (h : Q v s)
    (hk : scope.kind = .function := by rfl) (hl : (envOfC name scope L a cd).kindOf x = some .local := by rfl) (hd : (x == ("__debug__" : Str)) = false := by decide) :
    wpAny M A (eval (.Name x pos) (envOfC name scope L a cd)) Q E s := wpAny_Name (wpAny_loadName_local hk hl hn hv h) hd
/-- what __init__ leaves of a fresh exception at x -/
structure InitEnd (h h' : Heap) (x C dx t1 : Addr) (v : Value) : Prop where
  keep : ∀ b o, b ≠ x → h.get? b = some o → h'.get? b = some o
  obj : h'.get? x = some { cls := .ref C, dict := some dx, data := .fields #[.ref t1, .none, .none, .none, .bool false, .none] }
  dbig : h.objs.size ≤ dx
  dne : dx ≠ x
  ns : h'.Ns1 dx (fun y => if y = "value" then some v else none)
/-- a made one -/
structure OwnMade (h h' : Heap) (e C d : Addr) (v : Value) : Prop where
  keep : ∀ b o, h.get? b = some o → h'.get? b = some o
  new : h.objs.size ≤ e
  obj : ∃ oe vs, h'.get? e = some oe ∧ oe.cls = .ref C ∧ oe.dict = some d ∧ oe.data = .fields vs ∧ vs[1]? = some .none ∧ vs[2]? = some .none
  dbig : h.objs.size ≤ d
  dne : d ≠ e
  ns : h'.Ns1 d (fun y => if y = "value" then some v else none)
section
variable {prog : Program} {w : World} {A : Around} {E : Value → Shared → Prop} {R : Result → Shared → Prop} {s : Shared} {K : Frag} {mg : Str → Option Value} {C fI : Addr} {xn qn : Str}
theorem low_init (T : LowTxt K mg xn qn C fI) {x t0 : Addr} {v : Value} (X : K.In s.heap) (hlim : s.heap.NoLimit) (hx : s.heap.get? x = some (excO C t0)) (hnx : K.lookup x = none) (hroom : A.depth < recursionLimit)
    (hq : ∀ h' tk dx, InitEnd s.heap h' x C dx t0 v → R (.ok (.ret .none)) { s with heap := h', toks := tk }) :
    codeAny (model prog w) A (.call (.ref fI) ⟨[.ref x, v], []⟩) R s := by
  obtain ⟨oc, od, kV, doc, pm, an, cdv, ct, osl, p1, p2, q1, q2, q3, q4, ho, hcd⟩ := T.fn
  obtain ⟨nm, q, N, bs, bm, sn, sub, ab, col, dd, k0, k1, k2, k3, k5, hC, hbm⟩ := T.cls
  have hcl : clsIn K C = some { name := nm, bases := bs, mro := .ref C :: bm, ns := N, qualname := q, hasDict := true, slotNames := sn, subclasses := sub, abstract := ab, collection := col, hasDel := false } := by unfold clsIn; rw [hC] <;> rfl
  refine Att.call_fn (binds := [("self", .ref x), ("value", v)]) X hlim ho hcd hroom (BindsTo.of_eq (by first | rfl | with_unfolding_all rfl)) (by first | rfl | decide | with_unfolding_all rfl) (fun s₁ IC => ?_) rfl rfl rfl
  obtain ⟨h₁, tk₁, rfl⟩ := IC.toInCall.same
  have k : ∀ b o, s.heap.get? b = some o → h₁.get? b = some o := IC.toInCall.keep
  have hn := IC.toInCall.ns
  have hxL : s.heap.objs.size ≠ x := Nat.ne_of_gt (Heap.lt_size hx)
  have X₁ : K.In h₁ := X.keeps k
  have hx₁ := k _ _ hx
  -- self.value = value
  show wpAny _ _ (execs _ _) _ _ _
  refine wpAny_execs_cons (plainObj_wpAny_Assign_Attribute ?_)
  refine ldC (v := v) hn (by first | rfl | with_unfolding_all rfl | kernel_rfl) (ldC (v := .ref x) hn (by first | rfl | with_unfolding_all rfl | kernel_rfl) ?_)
  refine set_plain X₁ (ox := excO C t0) (od := none) ⟨hx₁, rfl, rfl, trivial⟩ T.sa ?_
  refine exc_osa X₁ hx₁ hcl (show refsVE (.ref C :: bm) = true from hbm) rfl T.noN (fun h₃ tk₃ dx k₃ dn dne hx₃ hn₃ => ?_)
  show wpAny _ _ (execs _ _) _ _ _
  have z : s.heap.objs.size < h₁.objs.size := hn.lt
  exact wpAny_execs_nil (hq h₃ tk₃ dx ⟨fun b o hb e => k₃ b o hb (k b o e), hx₃, Nat.le_of_lt (Nat.lt_of_lt_of_le z dn), dne, hn₃⟩)
theorem low_made (T : LowTxt K mg xn qn C fI) {v : Value} (X : K.In s.heap) (hlim : s.heap.NoLimit) (hroom : A.depth + 1 < recursionLimit)
    (hq : ∀ h' tk e d, OwnMade s.heap h' e C d v → R (.ok (.ret (.ref e))) { s with heap := h', toks := tk }) :
    codeAny (model prog w) A (.call (.ref C) ⟨[v], []⟩) R s := by
  obtain ⟨nm, q, N, bs, bm, sn, sub, ab, col, dd, k0, k1, k2, k3, k5, hC, hbm⟩ := T.cls
  obtain ⟨hp, g, dr, tk, os⟩ := s
  have k : ∀ b o, hp.get? b = some o → ((hp.push (kdv_tup [v])).push (excO C hp.objs.size)).get? b = some o := fun b o e => Heap.get?_push_of_some _ (Heap.get?_push_of_some _ e)
  have hget : ((hp.push (kdv_tup [v])).push (excO C hp.objs.size)).get? (hp.objs.size + 1) = some (excO C hp.objs.size) := by heap_get
  have hnx : K.lookup (hp.objs.size + 1) = none := by
    cases e : K.lookup (hp.objs.size + 1) with
    | none => rfl
    | some o =>
      have z : hp.get? (hp.objs.size + 1) = some o := X _ _ e
      exact absurd (Nat.lt_of_succ_lt (Heap.lt_size z)) (Nat.lt_irrefl _)
  refine call_own F.excBase_ValueError (fun X => refsVE_contains X bm hbm) (X _ _ hC) (looks_findIn X T.iC) (fun self => bind_fn X self T.tC) (one_size v) ?_
  refine low_init (s := ⟨(hp.push (kdv_tup [v])).push (excO C hp.objs.size), g, dr, tk, os⟩) T (X.keeps k) (hlim.keeps k) hget hnx ?_ fun h' tk' dx ⟨k', hx, dn, dne, hns⟩ => ?_
  · show A.depth + 1 < recursionLimit
    exact hroom
  · have old : ∀ b o, hp.get? b = some o → h'.get? b = some o := fun b o e => k' b o (Nat.ne_of_lt (Nat.lt_succ_of_lt (Heap.lt_size e))) (k b o e)
    have z : hp.objs.size + 1 + 1 ≤ dx := by
      first
        | (simpa only [Heap.size_push] using dn)
        | exact dn
        | (have q := dn; rw [Heap.size_push, Heap.size_push] at q; exact q)
    exact ⟨rfl, hq h' tk' (hp.objs.size + 1) dx ⟨old, Nat.le_succ _, ⟨_, _, hx, rfl, rfl, rfl, rfl, rfl⟩, Nat.le_trans (Nat.le_trans (Nat.le_succ _) (Nat.le_succ _)) z, dne, hns⟩⟩
end
end Lowvalue
end PySem
namespace L2
open PySem PySem.Spec PyProof.Rows
theorem relO_value {v : V} {v' : Value} (r : RelV v v') (f : Str) : RelO (List.lookup f [(("value" : Str), v)]) (if f = "value" then some v' else none) := by
  by_cases hw : f = "value"
  · subst hw
    rw [if_pos rfl]
    have q : List.lookup ("value" : Str) [(("value" : Str), v)] = some v := by simp [List.lookup]
    rw [q]
    exact r
  · rw [if_neg hw]
    have qw : (f == ("value" : Str)) = false := by simpa using hw
    have q2 : List.lookup f [(("value" : Str), v)] = none := by simp [List.lookup, qw]
    rw [q2]
    trivial
section
variable {X : Cx} {C fI : Addr} {xn qn : Str}
/-- Low(e) -/
def tMkvalue (C : Addr) (ta : TA) : St → Hp → XK → Prop := fun σ H Q => ta σ H fun vs H1 => ∃ v, vs = [v] ∧ ∀ d, H1 d = none → Q (.ref C) (some d) (upd H1 d (.xd [(("value" : Str), v)]))
theorem pmk_value {a : Expr} {ta : TA} {p pos : Pos} {k : Nat} (T : PySem.Lowvalue.LowTxt X.K X.mg xn qn C fI) (hr : Room k X.A) (ha : PA X [a] ta) (hg : Gl X xn) (hdb : (xn == ("__debug__" : Str)) = false := by decide)
    (he : starEach (a :: []) X.env = (false, eval a X.env) :: starEach [] X.env := by rfl) (hpl : (backTo pos (starEach [] X.env)).any (·.1) = false := by rfl) :
    L2N.PMk X (.Call (.Name xn p) [a] [] pos) (tMkvalue C ta) := by
  intro pins s σ H Q I h
  refine wpAny_Call_Name_kw (ld_glob I hg T.g ?_ hdb)
  refine PySem.W.callWith_K (h₀ := X.base) I.ok.mod.kin T.kC (thn (ha.run pos pins s σ H _ I h) fun us s1 hh => ?_) he hpl
  obtain ⟨vs, H1, I1, r1, v, ev, q1⟩ := hh
  subst ev
  refine ⟨I1.kIn, ?_⟩
  cases r1 with
  | cons rv rn =>
    rename_i v' us'
    cases rn
    show wpAny _ _ (call (.ref C) [v']) _ _ _
    have hlim := I1.nolimit
    obtain ⟨hp, g, dr, tk, os⟩ := s1
    refine wpAny_call (PySem.Lowvalue.low_made T I1.kIn hlim (by have := hr.dp; omega) fun h' tk' e d M => ?_)
    show L2N.MkP X pins σ Q (.ref e) ⟨h', g, dr, tk', os⟩
    obtain ⟨oe, fv, hoe, hc, hd, hdat, h1, h2⟩ := M.obj
    have hns := M.ns
    obtain ⟨G', g1, g2⟩ := restrict h' fun b => decide (b ≠ e)
    have gk : ∀ b, b ≠ e → G'.get? b = h'.get? b := fun b hb => g1 b (decide_eq_true hb)
    have ge : G'.get? e = none := g2 e (by simp)
    have old : ∀ b o, hp.get? b = some o → G'.get? b = some o := fun b o q => (gk b (Nat.ne_of_lt (Nat.lt_of_lt_of_le (Heap.lt_size q) M.new))).trans (M.keep b o q)
    have ob : ObjOk X.prog X.w (upd H1 d (.xd [(("value" : Str), v)])) G' d (.xd [(("value" : Str), v)]) :=
      ⟨_, hns.at (fun o q => (gk d M.dne).trans q), fun f => relO_value rv f⟩
    have J : Inv X pins σ (upd H1 d (.xd [(("value" : Str), v)])) ⟨G', g, dr, tk', os⟩ := I1.laid (t' := tk') old M.dbig ob
    refine ⟨e, oe, fv, ⟨G', g, dr, tk', os⟩, _, .ref C, some d, rfl, J, fun b o q => ?_, ge, hoe, ⟨hc, hd, fun vs z => by rw [hdat] at z; cases z; exact h2⟩, hdat, h1, ?_, rfl, I1.bare, raises_own T.exC T.tyC, q1 d (I1.hok.fresh M.dbig)⟩
    · by_cases hb : b = e
      · have q' : G'.get? b = some o := q
        rw [hb, ge] at q'; cases q'
      · exact (gk b hb).symm.trans q
    · rw [upd_ne (Ne.symm M.dne)]
      exact I1.hok.fresh M.new
end
end L2
namespace Vb
open PySem PySem.Spec PyProof.Rows L2
section
variable {P : Program} {w : World} {K : PySem.W.Frag} {mg : Str → Option Value} {base : Heap}
/-- a def that may raise, its exceptions' context told -/
theorem okN {x qual : Str} {st : Stmt} {f : Addr} {fd : FuncData} {N ps : List Str} {k : Nat} {sp : Sp} (F : Fun K x qual st f fd) (S : FnScope N ps (defScope st)) (len : ∀ vs H Q E, sp vs H Q E → vs.length = ps.length)
    (hbody : ∀ (cdv : Value) (A : Around) (outer : List Env) (s : Shared) (H : Hp) (vs : List V) (Q : VK) (E : XK), Room k (A.deeper (envOfC qual (defScope st) s.heap.objs.size f cdv)) → sp vs H Q E →
      ∃ t, PSs (cxOf (L2N.CX P w) P w K mg base N qual (defScope st) f cdv A outer s H E) (defBody st) t ∧ t (Ends.mk (fun _ H' => Q .non H') Q (fun _ _ => False) (fun _ _ => False)) (start N vs) H) : FnOk P w K mg base (L2N.CX P w) (k + 1) f fd ps sp := by
  obtain ⟨oc, od, kV, doc, pm, an, cdv, ct, osl, rfl, lk, hcd⟩ := F.ex
  exact fn_of lk hcd S len fun A outer s H vs Q E hr hsp => hbody cdv A outer s H vs Q E hr hsp
/-- the same, called while an exception is handled -/
theorem okH {x qual : Str} {st : Stmt} {f : Addr} {fd : FuncData} {N ps : List Str} {k : Nat} {sp : Sp} (F : Fun K x qual st f fd) (S : FnScope N ps (defScope st)) (len : ∀ vs H Q E, sp vs H Q E → vs.length = ps.length)
    (hbody : ∀ (cdv : Value) (A : Around) (outer : List Env) (s : Shared) (H : Hp) (vs : List V) (Q : VK) (E : XK) (p : Addr × Obj), L2H.Hot1 A p → L2H.RoomH k (A.deeper (envOfC qual (defScope st) s.heap.objs.size f cdv)) → sp vs H Q E →
      ∃ t, PSs (L2H.cxH CX0 P w K mg base N qual (defScope st) f cdv A outer s H E p) (defBody st) t ∧ t (Ends.mk (fun _ H' => Q .non H') Q (fun _ _ => False) (fun _ _ => False)) (start N vs) H) : L2H.FnH P w K mg base CX0 (k + 1) f fd ps sp := by
  obtain ⟨oc, od, kV, doc, pm, an, cdv, ct, osl, rfl, lk, hcd⟩ := F.ex
  exact L2H.fn_ofH lk hcd S len fun A outer s H vs Q E p hot hr hsp => hbody cdv A outer s H vs Q E p hot hr hsp
/-- a def of the text, by its name -/
structure Dn (K : PySem.W.Frag) (mg : Str → Option Value) (x : Str) (st : Stmt) (ps : List Str) (f : Addr) (fd : FuncData) : Prop where
  F : Fun K x x st f fd
  g : mg x = some (.ref f)
  b : Binds K fd ps []
/-- an own error's class without an __init__ -/
structure Xn (K : PySem.W.Frag) (mg : Str → Option Value) (x : Str) (C : Addr) : Prop where
  g : mg x = some (.ref C)
  q : PySem.W.excIn K C [.type "ValueError", .type "Exception", .type "BaseException", .type "object"] "ValueError.__new__" = true
  kC : PySem.W.keepIn K (.ref C) = true
  exC : PySem.W.subIn K (.ref C) (.type "BaseException") = some true
  tyC : PySem.W.typeIn K (.ref C) = some (.type "type")
/-- what isinstance asks of a caught error's class -/
structure Xk (K : PySem.W.Frag) (C : Addr) : Prop where
  cl : PySem.W.isClsIn K C = true
  ga : PySem.W.findIn K (.ref C) "__getattribute__" = some (some (.builtin "BaseException.__getattribute__"))
  gg : PySem.W.findIn K (.ref C) "__getattr__" = some none
  sb : PySem.W.subIn K (.ref C) (.type "BaseException") = some true
  ca : PySem.W.findIn K (.ref C) "__class__" = some (some (.builtin "object.__class__"))
  sp : PySem.W.specialIn K (.builtin "object.__class__") "__get__" = some (some (.builtin "getset_descriptor.__get__"))
  tk : PySem.W.takesIn K (.builtin "object.__class__") = some true
  mo : PySem.W.mroIn K C (.type "object") = some true
  hd : PySem.W.hasDictIn K C = true
  ss : PySem.W.subIn K (.ref C) (.ref C) = some true
  ty : PySem.W.typeIn K (.ref C) = some (.type "type")
theorem Xk.ex {C : Addr} (k : Xk K C) : PySem.W.exmOne K (.ref C) (.ref C) = some true := PySem.W.exm_ref k.sb k.hd k.ty k.ss
theorem Xk.xf {C : Addr} (k : Xk K C) : XfC K C := ⟨k.ga, k.gg, k.sb, k.hd⟩
theorem kit_yes {D C : Addr} (h1 : PySem.W.isClsIn K C = true) (h2 : PySem.W.typeIn K (.ref C) = some (.type "type")) (h3 : PySem.W.subIn K (.ref D) (.ref C) = some true) : PySem.W.kitOne K (.ref D) (.ref C) = some true := by
  have h1' : (PySem.W.clsIn K C).isSome = true := h1
  unfold PySem.W.kitOne
  split
  · rfl
  · show (if ((PySem.W.clsIn K C).isSome && PySem.W.typeIn K (.ref C) == some (.type "type")) = true then PySem.W.subIn K (.ref D) (.ref C) else none) = _
    rw [h1', h2, if_pos (by decide)]
    exact h3
theorem kit_no {D C : Addr} (h1 : PySem.W.isClsIn K C = true) (h2 : PySem.W.typeIn K (.ref C) = some (.type "type")) (h3 : PySem.W.subIn K (.ref D) (.ref C) = some false) (ne : D ≠ C) : PySem.W.kitOne K (.ref D) (.ref C) = some false := by
  have h1' : (PySem.W.clsIn K C).isSome = true := h1
  unfold PySem.W.kitOne
  split
  · rename_i h
    have e := beq_iff_eq.mp h
    cases e
    exact absurd rfl ne
  · show (if ((PySem.W.clsIn K C).isSome && PySem.W.typeIn K (.ref C) == some (.type "type")) = true then PySem.W.subIn K (.ref D) (.ref C) else none) = _
    rw [h1', h2, if_pos (by decide)]
    exact h3
theorem kit_blt {D : Addr} {T : String} {b : Bool} (h1 : PySem.W.kitMeta T = true) (h3 : PySem.W.subIn K (.ref D) (.type T) = some b) : PySem.W.kitOne K (.ref D) (.type T) = some b := by
  unfold PySem.W.kitOne
  rw [if_neg (by intro h; cases beq_iff_eq.mp h)]
  show (if PySem.W.kitMeta T = true then PySem.W.subIn K (.ref D) (.type T) else none) = _
  rw [h1, if_pos rfl]
  exact h3
end
theorem pass5 {X : Cx} : Passes (L2N.CX X.prog X.w) X E0 := fun _ _ _ _ _ _ _ h => by
  obtain ⟨_, _, _, _, _, _, _, _, _, _, _, _, z⟩ := h
  exact z.elim
theorem roomH_mark {k : Nat} {A : Around} (r : Room k A) (h : Option Value) : L2H.RoomH k (A.mark h) := ⟨r.dp, r.un⟩
theorem passH {X : Cx} {σ : L2.St} : PassesAt CX0 X σ E0 := fun _ _ _ _ _ _ h => h.elim
theorem takesF {X : Cx} : L2N.Takes X (fun _ _ _ _ => False) := fun _ _ x => by
  obtain ⟨_, _, _, _, _, _, _, _, _, _, _, _, _, _, _, _, z⟩ := x
  exact z.elim
section
variable {X : Cx}
theorem hotN {a : Addr} {oe : Obj} {cls : Value} {d : Option Addr} {pn : List (Addr × Obj)} (hz : L2N.Zn cls d oe) (hf : ∃ vs, oe.data = .fields vs) : L2H.HotC (X.suite a ((a, oe) :: pn)) := by
  obtain ⟨vs, e⟩ := hf
  exact ⟨(a, oe), ⟨rfl, vs, e, hz.2.2 vs e⟩, List.mem_cons_self⟩
/-- X() of such a class -/
theorem pmk0 {x : Str} {C : Addr} {p pos : Pos} (T : Xn X.K X.mg x C) (hg : Gl X x) (hdb : (x == ("__debug__" : Str)) = false := by decide) : L2N.PMk X (.Call (.Name x p) [] [] pos) (fun _ H Q => Q (.ref C) none H) := by
  intro pins s σ H Q I h
  refine wpAny_Call_Name_kw (ld_glob I hg T.g ?_ hdb)
  refine PySem.W.callWith_K0 I.kIn T.kC ?_
  obtain ⟨bm, N, nm, qn, bs, hdct, sn, sub, ab, col, dd, k0, k1, k2, k3, k5, mN, hC, hN, hni, T5⟩ := exc_obj I.kIn T.q
  refine wpAny_call_exc_subT PySem.F.excBase_ValueError T5 hC hN hni (fun h' e hm => ?_) (Nat.zero_le _)
  exact L2N.mk_of I hm (raises_own T.exC T.tyC) h (I.hok.gone hm.new)
/-- isinstance(e, c), e the caught error: its class D, its own dict d -/
def rIsX (K : PySem.W.Frag) (D a : Addr) (cls : Value) (d : Option Addr) : List V → Hp → VK → Prop := fun xs H Q => ∃ (c : V) (cv : Value) (b : Bool), xs = [.ref a, c] ∧ cls = .ref D ∧ (∀ u, RelV c u → u = cv) ∧ PySem.W.kitOne K (.ref D) cv = some b ∧ (d = none ∨ ∃ dd fs, d = some dd ∧ H dd = some (.xd fs)) ∧ Q (.bl b) H
theorem call_isX {a D : Addr} {oe : Obj} {cls : Value} {d : Option Addr} {pn : List (Addr × Obj)} (C : Xk X.K D) (hz : L2N.Zn cls d oe) (hf : ∃ vs, oe.data = .fields vs) : CallR (X.suite a ((a, oe) :: pn)) (.builtin "isinstance") (rIsX X.K D a cls d) := by
  intro pins s σ H xs us Q I r h
  obtain ⟨c, cv, b, rfl, ec, hcv, e, hd, q⟩ := h
  obtain ⟨u1, u2, rfl, r1, r2⟩ := vals2 r
  cases (show u1 = Value.ref a from r1)
  have e2 := hcv _ r2
  subst e2
  obtain ⟨hget, _⟩ := I.pin (a, oe) (List.mem_append.mpr (.inl List.mem_cons_self))
  obtain ⟨vs, hv⟩ := hf
  have J : ∃ od, PySem.W.InstAt s.heap a oe D od := by
    rcases hd with hd | ⟨dd, fs, hd, ho⟩
    · refine ⟨none, hget, hz.1.trans ec, by unfold PySem.W.notCls; rw [hv] <;> rfl, ?_⟩
      rw [hz.2.1, hd]
      trivial
    · have hx : ObjOk X.prog X.w H s.heap dd (.xd fs) := I.hok dd _ ho
      obtain ⟨mA, hns, _⟩ := hx
      obtain ⟨od, ho, _⟩ := lookIn_ns hns
      refine ⟨some od, hget, hz.1.trans ec, by unfold PySem.W.notCls; rw [hv] <;> rfl, ?_⟩
      rw [hz.2.1, hd]
      exact ho
  obtain ⟨od, J⟩ := J
  exact PySem.W.kia_one (PySem.W.kitx_exc C.cl C.ga C.gg C.sb C.ca C.sp C.tk C.mo) I.kIn J e (fun z => nomatch z) fun tk => ⟨.bl b, H, I.kept (t' := tk) fun _ _ z => z, rfl, q⟩
/-- a power of a greater number -/
def CPowB (i j : Int) : Prop := 0 ≤ j ∧ (PySem.Builtin.Int.intBits i : Int) * j ≤ 2 ^ 27
theorem op_powB : OpR X (binaryOp .Pow) (rI CPowB fun i j => .int (i ^ j.toNat)) := opI fun _ _ _ _ _ _ _ hc q => PyProof.Rows.pow_int hc.1 hc.2 q
end

/-! ### a reading, step by step -/
section
variable {K : PySem.W.Frag} {σ : L2.St} {H : Hp} {Q : VK} {QT : Bool → Hp → Prop} {QA : List V → Hp → Prop} {ta tb te tc : TE} {t u : TT} {ts tu tw : TS} {x y v : V} {r r' : R2} {nx bk ct : L2.St → Hp → Prop} {rt : VK} {i j : Nat}
theorem r_var (h : σ[i]? = some (some v)) (q : Q v H) : tVar i σ H Q := ⟨v, h, q⟩
theorem r_c (q : Q v H) : tC v σ H Q := q
theorem r_op (h : ta σ H fun x H1 => tb σ H1 fun y H2 => r x y H2 Q) : tOp r ta tb σ H Q := h
theorem r_un {ru : V → Hp → VK → Prop} (h : ta σ H fun x H1 => ru x H1 Q) : tUn ru ta σ H Q := h
theorem r_I0 {g : Int → Int → V} {a b : Int} (q : Q (g a b) H) : rI0 g (.int a) (.int b) H Q := ⟨a, b, rfl, rfl, q⟩
theorem r_I {C : Int → Int → Prop} {g : Int → Int → V} {a b : Int} (c : C a b) (q : Q (g a b) H) : rI C g (.int a) (.int b) H Q := ⟨a, b, rfl, rfl, c, q⟩
theorem r_U {g : Int → V} {a : Int} (q : Q (g a) H) : rU g (.int a) H Q := ⟨a, rfl, q⟩
theorem r_eqI {a b : Int} (q : Q (.bl (decide (a = b))) H) : rEq (.int a) (.int b) H Q := ⟨rfl, by
  have e : decide (V.int a = V.int b) = decide (a = b) := by
    by_cases h : a = b
    · rw [decide_eq_true h, decide_eq_true (congrArg V.int h)]
    · rw [decide_eq_false h, decide_eq_false (fun z => h (V.int.inj z))]
  rw [e]
  exact q⟩
theorem r_neI {a b : Int} (q : Q (.bl (!decide (a = b))) H) : rNe (.int a) (.int b) H Q := ⟨rfl, by
  have e : decide (V.int a = V.int b) = decide (a = b) := by
    by_cases h : a = b
    · rw [decide_eq_true h, decide_eq_true (congrArg V.int h)]
    · rw [decide_eq_false h, decide_eq_false (fun z => h (V.int.inj z))]
  rw [e]
  exact q⟩
theorem r_test (h : te σ H fun x H' => ∃ k, x = .bl k ∧ QT k H') : tTest te σ H QT := h
theorem r_tB (h : te σ H fun x H' => ∃ k, x = .bl k ∧ QT k H') : tB te σ H QT := h
theorem r_bl {k : Bool} {C : Bool → Prop} (q : C k) : ∃ k', V.bl k = .bl k' ∧ C k' := ⟨k, rfl, q⟩
theorem r_and (h : t σ H fun c H1 => if c = true then u σ H1 QT else QT false H1) : tAnd t u σ H QT := h
theorem r_or (h : t σ H fun c H1 => if c = true then QT true H1 else u σ H1 QT) : tOr t u σ H QT := h
theorem r_not (h : t σ H fun c H1 => QT (!c) H1) : tNot t σ H QT := h
theorem r_andV (h : ta σ H fun x H1 => ∃ c, x = .bl c ∧ if c = true then tb σ H1 Q else Q (.bl false) H1) : tAndV ta tb σ H Q := h
theorem r_orV (h : ta σ H fun x H1 => ∃ c, x = .bl c ∧ if c = true then Q (.bl true) H1 else tb σ H1 Q) : tOrV ta tb σ H Q := h
theorem r_notV (h : ta σ H fun x H1 => ∃ c, x = .bl c ∧ Q (.bl (!c)) H1) : tNotV ta σ H Q := h
theorem r_if (h : t σ H fun c H1 => if c = true then ta σ H1 Q else tb σ H1 Q) : tIf t ta tb σ H Q := h
theorem r_chain (h : ta σ H fun x H1 => tb σ H1 fun y H2 => r x y H2 fun z H3 => ∃ k, z = .bl k ∧ (if k = true then tc σ H3 fun w H4 => r' y w H4 Q else Q (.bl false) H3)) : tChain r r' ta tb tc σ H Q := h
theorem r_ite {C : Prop} [Decidable C] {A B : Prop} (h1 : C → A) (h2 : ¬ C → B) : if decide C = true then A else B := by
  by_cases h : C
  · rw [if_pos (decide_eq_true h)]; exact h1 h
  · rw [if_neg (by rw [decide_eq_false h]; decide)]; exact h2 h
theorem r_iteN {C : Prop} [Decidable C] {A B : Prop} (h1 : ¬ C → A) (h2 : C → B) : if (!decide C) = true then A else B := by
  by_cases h : C
  · rw [if_neg (by rw [decide_eq_true h]; decide)]; exact h2 h
  · rw [if_pos (by rw [decide_eq_false h]; decide)]; exact h1 h
theorem r_iteb {b : Bool} {A B : Prop} (h1 : b = true → A) (h2 : b = false → B) : if b = true then A else B := by
  cases b with
  | true => rw [if_pos rfl]; exact h1 rfl
  | false => rw [if_neg (by decide)]; exact h2 rfl
theorem r_iteNb {b : Bool} {A B : Prop} (h1 : b = false → A) (h2 : b = true → B) : if (!b) = true then A else B := by
  cases b with
  | true => rw [if_neg (by decide)]; exact h2 rfl
  | false => rw [if_pos (by decide)]; exact h1 rfl
theorem r_iteT {A B : Prop} (h : A) : if true = true then A else B := by rw [if_pos rfl]; exact h
theorem r_iteF {A B : Prop} (h : B) : if false = true then A else B := by rw [if_neg (by decide)]; exact h
theorem r_iteNT {A B : Prop} (h : B) : if (!true) = true then A else B := by rw [if_neg (by decide)]; exact h
theorem r_iteNF {A B : Prop} (h : A) : if (!false) = true then A else B := by rw [if_pos (by decide)]; exact h
-- arguments, displays
theorem r_nil (q : QA [] H) : tNil σ H QA := q
theorem r_cons {tr : TA} (h : te σ H fun x H1 => tr σ H1 fun xs H2 => QA (x :: xs) H2) : tCons te tr σ H QA := h
theorem r_tup {t : TA} (h : t σ H fun xs H1 => xs.length ≤ sizeLine ∧ ∀ p, H1 p = none → Q (.ref p) (upd H1 p (.tup xs))) : tTup t σ H Q := h
theorem r_lst {t : TA} (h : t σ H fun xs H1 => xs.length ≤ sizeLine ∧ ∀ p, H1 p = none → Q (.ref p) (upd H1 p (.lst xs))) : tLst t σ H Q := h
theorem r_CB {r : List V → Hp → VK → Prop} {t : TA} (h : t σ H fun vs H1 => r vs H1 Q) : tCB r t σ H Q := h
theorem r_callS {sp : Sp} {E : L2.St → XK} {t : TA} (h : t σ H fun vs H1 => sp vs H1 Q (E σ)) : tCallS sp E t σ H Q := h
theorem r_call {sp : Sp} {E : XK} {t : TA} (h : t σ H fun vs H1 => sp vs H1 Q E) : tCall sp [] E t σ H Q := by
  show t σ H fun vs H1 => sp (vs ++ []) H1 Q E
  have e : (fun (vs : List V) (H1 : Hp) => sp (vs ++ []) H1 Q E) = fun vs H1 => sp vs H1 Q E := by
    funext vs H1
    rw [List.append_nil]
  rw [e]
  exact h
def rAbs : List V → Hp → VK → Prop := fun xs H Q => ∃ i, xs = [.int i] ∧ Q (.int (if i < 0 then -i else i)) H
theorem r_abs {a : Int} (q : Q (.int (if a < 0 then -a else a)) H) : rAbs [.int a] H Q := ⟨a, rfl, q⟩
def rMax2 : List V → Hp → VK → Prop := fun xs H Q => ∃ i j, xs = [.int i, .int j] ∧ Q (.int (if j > i then j else i)) H
theorem r_max2 {a b : Int} (q : Q (.int (if b > a then b else a)) H) : rMax2 [.int a, .int b] H Q := ⟨a, b, rfl, q⟩
def rMin2 : List V → Hp → VK → Prop := fun xs H Q => ∃ i j, xs = [.int i, .int j] ∧ Q (.int (if j < i then j else i)) H
theorem r_min2 {a b : Int} (q : Q (.int (if b < a then b else a)) H) : rMin2 [.int a, .int b] H Q := ⟨a, b, rfl, q⟩
def rInt : List V → Hp → VK → Prop := fun xs H Q => (∃ i, xs = [.int i] ∧ Q (.int i) H) ∨ ∃ k, xs = [.bl k] ∧ Q (.int (if k then 1 else 0)) H
theorem r_int {a : Int} (q : Q (.int a) H) : rInt [.int a] H Q := .inl ⟨a, rfl, q⟩
theorem r_intB {b : Bool} (q : Q (.int (if b then 1 else 0)) H) : rInt [.bl b] H Q := .inr ⟨b, rfl, q⟩
def rLenS (K : PySem.W.Frag) : List V → Hp → VK → Prop := fun xs H Q => ∃ p ys, xs = [.ref p] ∧ (SqL K H p ys ∨ SqT K H p ys) ∧ Q (.int ys.length) H
theorem r_len {a : Addr} {xs : List V} (h : SqL K H a xs) (q : Q (.int xs.length) H) : rLenS K [.ref a] H Q := ⟨a, xs, rfl, .inl h, q⟩
theorem r_lenT {a : Addr} {xs : List V} (h : SqT K H a xs) (q : Q (.int xs.length) H) : rLenS K [.ref a] H Q := ⟨a, xs, rfl, .inr h, q⟩
def rList (K : PySem.W.Frag) : List V → Hp → VK → Prop := fun xs H Q => ∃ p ys, xs = [.ref p] ∧ (SqL K H p ys ∨ SqT K H p ys) ∧ ∀ l, H l = none → Q (.ref l) (upd H l (.lst ys))
theorem r_list {a : Addr} {xs : List V} (h : SqL K H a xs) (q : ∀ l, H l = none → Q (.ref l) (upd H l (.lst xs))) : rList K [.ref a] H Q := ⟨a, xs, rfl, .inl h, q⟩
theorem r_ixL {a : Addr} {xs : List V} {z : Int} (h : SqL K H a xs) (e : atI xs z = some v) (q : Q v H) : rIxL K (.ref a) (.int z) H Q := ⟨a, xs, z, v, rfl, rfl, h, e, q⟩
theorem r_ixT {a : Addr} {xs : List V} {z : Int} (h : SqT K H a xs) (e : atI xs z = some v) (q : Q v H) : rIxT K (.ref a) (.int z) H Q := ⟨a, xs, z, v, rfl, rfl, h, e, q⟩
theorem r_setL {a : Addr} {xs : List V} {z : Int} {k : Nat} {C : Hp → Prop} (h : H a = some (.lst xs)) (e : ixN xs.length z = some k) (q : C (upd H a (.lst (xs.set k v)))) : rSetL (.ref a) (.int z) v H C := ⟨a, xs, z, k, rfl, rfl, h, e, q⟩
theorem r_BM0 {T : String} {r : V → List V → Hp → VK → Prop} {to : TE} (h : to σ H fun x H1 => tyV K T x H1 ∧ r x [] H1 Q) : tBM0 K T r to σ H Q := h
theorem r_rev {a : Addr} {xs : List V} (h : H a = some (.lst xs)) (q : Q .non (upd H a (.lst xs.reverse))) : rReverse (.ref a) [] H Q := ⟨a, xs, rfl, rfl, h, q⟩
theorem r_BM {T : String} {r : V → List V → Hp → VK → Prop} {to : TE} {t : TA} (h : to σ H fun x H1 => tyV K T x H1 ∧ t σ H1 fun xs H2 => r x xs H2 Q) : tBM K T r to t σ H Q := h
theorem r_app {a : Addr} {xs : List V} (h : H a = some (.lst xs)) (l : xs.length < sizeLine) (q : Q .non (upd H a (.lst (xs ++ [v])))) : rAppend (.ref a) [v] H Q := ⟨a, xs, v, rfl, rfl, h, l, q⟩
theorem tyL {a : Addr} {xs : List V} (h : H a = some (.lst xs)) : tyV K "list" (.ref a) H := .inl ⟨rfl, _, .inl (.inl h)⟩
theorem r_ty {a : Addr} {xs : List V} {B : Prop} (h : H a = some (.lst xs)) (q : B) : tyV K "list" (.ref a) H ∧ B := ⟨tyL h, q⟩
-- statements, something behind
theorem r_seq_set (h : te σ H fun x H1 => tu (Ends.mk nx rt bk ct) (σ.set i (some x)) H1) : tSeq (tAsg te (gName i)) tu (Ends.mk nx rt bk ct) σ H := h
theorem r_seq_sub {to ti : TE} {tt : TSet} (h : te σ H fun x H1 => to σ H1 fun o H2 => ti σ H2 fun k H3 => tt o k x H3 fun H4 => tu (Ends.mk nx rt bk ct) σ H4) : tSeq (tAsg te (gSub to ti tt)) tu (Ends.mk nx rt bk ct) σ H := h
theorem r_seq_when (h : t σ H fun b H1 => if b = true then ts (Ends.mk (tu (Ends.mk nx rt bk ct)) rt bk ct) σ H1 else tu (Ends.mk nx rt bk ct) σ H1) : tSeq (tIfS t ts tNext) tu (Ends.mk nx rt bk ct) σ H := h
theorem r_seq_if (h : t σ H fun b H1 => if b = true then ts (Ends.mk (tu (Ends.mk nx rt bk ct)) rt bk ct) σ H1 else tw (Ends.mk (tu (Ends.mk nx rt bk ct)) rt bk ct) σ H1) : tSeq (tIfS t ts tw) tu (Ends.mk nx rt bk ct) σ H := h
theorem r_seq_drop (h : te σ H fun _ H1 => tu (Ends.mk nx rt bk ct) σ H1) : tSeq (tDrop te) tu (Ends.mk nx rt bk ct) σ H := h
theorem r_seq (h : ts (Ends.mk (tu (Ends.mk nx rt bk ct)) rt bk ct) σ H) : tSeq ts tu (Ends.mk nx rt bk ct) σ H := h
-- the last one
theorem r_set (h : te σ H fun x H1 => nx (σ.set i (some x)) H1) : tAsg te (gName i) (Ends.mk nx rt bk ct) σ H := h
theorem r_sub {to ti : TE} {tt : TSet} (h : te σ H fun x H1 => to σ H1 fun o H2 => ti σ H2 fun k H3 => tt o k x H3 fun H4 => nx σ H4) : tAsg te (gSub to ti tt) (Ends.mk nx rt bk ct) σ H := h
theorem r_when (h : t σ H fun b H1 => if b = true then ts (Ends.mk nx rt bk ct) σ H1 else nx σ H1) : tIfS t ts tNext (Ends.mk nx rt bk ct) σ H := h
theorem r_ifs (h : t σ H fun b H1 => if b = true then ts (Ends.mk nx rt bk ct) σ H1 else tw (Ends.mk nx rt bk ct) σ H1) : tIfS t ts tw (Ends.mk nx rt bk ct) σ H := h
theorem r_drop (h : te σ H fun _ H1 => nx σ H1) : tDrop te (Ends.mk nx rt bk ct) σ H := h
theorem r_ret (h : te σ H rt) : tRet te (Ends.mk nx rt bk ct) σ H := h
theorem r_brk (h : bk σ H) : tBreak (Ends.mk nx rt bk ct) σ H := h
theorem r_cnt (h : ct σ H) : tCont (Ends.mk nx rt bk ct) σ H := h
theorem r_nxt (h : nx σ H) : tNext (Ends.mk nx rt bk ct) σ H := h
-- loops
def ForW (J : It) (g : TG) (tb : TS) (nx : L2.St → Hp → Prop) (rt : VK) (σ : L2.St) (H : Hp) : Prop := ∃ W : Nat → Nat → L2.St → Hp → Prop, (∃ m, W 0 m σ H) ∧ ∀ i m σ H, W i m σ H →
  (J.stop i H ∧ nx σ H) ∨ (J.go i H ∧ ∃ N : L2.St → Hp → Prop, (∀ σ' H', N σ' H' → ∃ m', m' < m ∧ W (i + 1) m' σ' H') ∧ ∀ x H', J.yld i H x H' → g x σ H' fun σ2 H2 => tb (Ends.mk N rt nx N) σ2 H2)
theorem r_for {wi : TI} {g : TG} (h : wi σ H fun J H1 => ForW J g ts nx rt σ H1) : tFor wi g ts (Ends.mk nx rt bk ct) σ H := h
theorem r_rng1 {ta : TA} {R : It → Hp → Prop} (h : ta σ H fun vs H1 => ∃ j : Int, vs = [.int j] ∧ -(2 ^ 62) ≤ j ∧ j < 2 ^ 62 ∧ R (Itr 0 j.toNat) H1) : iRng1 ta σ H R := h
theorem r_rng2 {ta : TA} {R : It → Hp → Prop} (h : ta σ H fun vs H1 => ∃ i j : Int, vs = [.int i, .int j] ∧ (-(2 ^ 62) ≤ i ∧ i < 2 ^ 62 ∧ -(2 ^ 62) ≤ j ∧ j < 2 ^ 62) ∧ R (Itr i (j - i).toNat) H1) : iRng2 ta σ H R := h
theorem r_iList {tl : TE} {R : It → Hp → Prop} (h : tl σ H fun x H1 => ∃ a, x = .ref a ∧ (∃ xs, SqL K H1 a xs) ∧ R (Itl K a) H1) : iList K tl σ H R := h
theorem f_rng1 {n : Int} {g : TG} (b1 : -(2 ^ 62) ≤ n) (b2 : n < 2 ^ 62) (q : ForW (Itr 0 n.toNat) g ts nx rt σ H) : ∃ j : Int, [V.int n] = [.int j] ∧ -(2 ^ 62) ≤ j ∧ j < 2 ^ 62 ∧ ForW (Itr 0 j.toNat) g ts nx rt σ H := ⟨n, rfl, b1, b2, q⟩
theorem f_rng2 {lo hi : Int} {g : TG} (b : -(2 ^ 62) ≤ lo ∧ lo < 2 ^ 62 ∧ -(2 ^ 62) ≤ hi ∧ hi < 2 ^ 62) (q : ForW (Itr lo (hi - lo).toNat) g ts nx rt σ H) : ∃ i j : Int, [V.int lo, V.int hi] = [.int i, .int j] ∧ (-(2 ^ 62) ≤ i ∧ i < 2 ^ 62 ∧ -(2 ^ 62) ≤ j ∧ j < 2 ^ 62) ∧ ForW (Itr i (j - i).toNat) g ts nx rt σ H := ⟨lo, hi, rfl, b, q⟩
theorem f_rng3 {i j c : Int} {n : Nat} {g : TG} (b : RgC i j c n) (q : ForW (Itc i c n) g ts nx rt σ H) : ∃ (i' j' c' : Int) (n' : Nat), [V.int i, V.int j, V.int c] = [.int i', .int j', .int c'] ∧ RgC i' j' c' n' ∧ ForW (Itc i' c' n') g ts nx rt σ H := ⟨i, j, c, n, rfl, b, q⟩
theorem f_list {a : Addr} {xs : List V} {g : TG} (h : SqL K H a xs) (q : ForW (Itl K a) g ts nx rt σ H) : ∃ b, V.ref a = .ref b ∧ (∃ xs, SqL K H b xs) ∧ ForW (Itl K b) g ts nx rt σ H := ⟨a, rfl, ⟨xs, h⟩, q⟩
theorem f_tup {a : Addr} {xs : List V} {g : TG} (h : SqT K H a xs) (q : ForW (Itt K a) g ts nx rt σ H) : ∃ b, V.ref a = .ref b ∧ (∃ xs, SqT K H b xs) ∧ ForW (Itt K b) g ts nx rt σ H := ⟨a, rfl, ⟨xs, h⟩, q⟩
theorem lp_range {lo : Int} {n : Nat} {g : TG} (Pv : Nat → L2.St → Hp → Prop) (h0 : Pv 0 σ H) (hs : ∀ i σ H, i < n → Pv i σ H → g (.int (lo + i)) σ H fun σ2 H2 => ts (Ends.mk (Pv (i + 1)) rt nx (Pv (i + 1))) σ2 H2) (hd : ∀ σ H, Pv n σ H → nx σ H) : ForW (Itr lo n) g ts nx rt σ H :=
  for_range (D := Ends.mk nx rt nx nx) Pv h0 hs hd
theorem lp_list {a : Addr} {xs : List V} {g : TG} (Pv : Nat → L2.St → Hp → Prop) (h0 : Pv 0 σ H) (hl : ∀ i σ H, i ≤ xs.length → Pv i σ H → SqL K H a xs)
    (hs : ∀ i x σ H, xs[i]? = some x → Pv i σ H → g x σ H fun σ2 H2 => ts (Ends.mk (Pv (i + 1)) rt nx (Pv (i + 1))) σ2 H2) (hd : ∀ σ H, Pv xs.length σ H → nx σ H) : ForW (Itl K a) g ts nx rt σ H :=
  for_list (D := Ends.mk nx rt nx nx) Pv h0 hl hs hd
theorem r_gName {C : L2.St → Hp → Prop} (h : C (σ.set i (some v)) H) : gName i v σ H C := h
/-- a turn's body, from measure m -/
def WhB (W : Nat → L2.St → Hp → Prop) (m : Nat) (tb : TS) (nx : L2.St → Hp → Prop) (rt : VK) (σ : L2.St) (H : Hp) : Prop := ∃ N : L2.St → Hp → Prop, (∀ σ' H', N σ' H' → ∃ m', m' < m ∧ W m' σ' H') ∧ tb (Ends.mk N rt nx N) σ H
theorem wh_body {W : Nat → L2.St → Hp → Prop} {m : Nat} {tb : TS} (h : tb (Ends.mk (fun σ' H' => ∃ m', m' < m ∧ W m' σ' H') rt nx (fun σ' H' => ∃ m', m' < m ∧ W m' σ' H')) σ H) : WhB W m tb nx rt σ H := ⟨_, fun _ _ z => z, h⟩
theorem r_while {tb : TS} (W : Nat → L2.St → Hp → Prop) (m : Nat) (h0 : W m σ H) (hs : ∀ m σ H, W m σ H → t σ H fun b H1 => if b = true then WhB W m tb nx rt σ H1 else nx σ H1) : tWhile t tb (Ends.mk nx rt bk ct) σ H := ⟨W, ⟨m, h0⟩, hs⟩
theorem r_iTup {tl : TE} {R : It → Hp → Prop} (h : tl σ H fun x H1 => ∃ a, x = .ref a ∧ (∃ xs, SqT K H1 a xs) ∧ R (Itt K a) H1) : iTup K tl σ H R := h
theorem lp_tup {a : Addr} {xs : List V} {g : TG} (Pv : Nat → L2.St → Hp → Prop) (h0 : Pv 0 σ H) (hl : ∀ i σ H, i ≤ xs.length → Pv i σ H → SqT K H a xs)
    (hs : ∀ i x σ H, xs[i]? = some x → Pv i σ H → g x σ H fun σ2 H2 => ts (Ends.mk (Pv (i + 1)) rt nx (Pv (i + 1))) σ2 H2) (hd : ∀ σ H, Pv xs.length σ H → nx σ H) : ForW (Itt K a) g ts nx rt σ H :=
  for_tup (D := Ends.mk nx rt nx nx) Pv h0 hl hs hd
theorem lp_rangeC {lo c : Int} {n : Nat} {g : TG} (Pv : Nat → L2.St → Hp → Prop) (h0 : Pv 0 σ H) (hs : ∀ i σ H, i < n → Pv i σ H → g (.int (lo + (i : Nat) * c)) σ H fun σ2 H2 => ts (Ends.mk (Pv (i + 1)) rt nx (Pv (i + 1))) σ2 H2) (hd : ∀ σ H, Pv n σ H → nx σ H) : ForW (Itc lo c n) g ts nx rt σ H :=
  for_rangeC (D := Ends.mk nx rt nx nx) Pv h0 hs hd
theorem r_rng3 {ta : TA} {R : It → Hp → Prop} (h : ta σ H fun vs H1 => ∃ (i j c : Int) (n : Nat), vs = [.int i, .int j, .int c] ∧ RgC i j c n ∧ R (Itc i c n) H1) : iRng3 ta σ H R := h
-- comprehensions
def LcW (J : It) (g : TG) (tt : TT) (te : TE) (vs : List Nat) (σ : L2.St) (H1 : Hp) (D : Addr) (Qd : Hp → Prop) : Prop := ∃ W : Nat → Nat → Hp → Prop, (∃ m, W 0 m (upd H1 D (.lst []))) ∧ ∀ i m H, W i m H →
  (J.stop i H ∧ Qd H) ∨ (J.go i H ∧ ∃ Nx : Hp → Prop, (∀ H', Nx H' → ∃ m', m' < m ∧ W (i + 1) m' H') ∧ ∀ x H', J.yld i H x H' → g x (wipe σ vs) H' fun σ2 H2 => wipe σ2 vs = wipe σ vs ∧ tt σ2 H2 fun b H3 =>
    if b = true then te σ2 H3 fun y H4 => ∃ acc, H4 D = some (.lst acc) ∧ acc.length < sizeLine ∧ Nx (upd H4 D (.lst (acc ++ [y]))) else Nx H3)
theorem r_lc {wi : TI} {g : TG} {tt : TT} {vs : List Nat} (h : wi σ H fun J H1 => ∀ D, H1 D = none → LcW J g tt te vs σ H1 D fun H' => Q (.ref D) H') : tLc wi g tt te vs σ H Q := h
theorem c_rng1 {n : Int} {g : TG} {tt : TT} {vs : List Nat} {σ' : L2.St} {Q' : Addr → Hp → Prop} (b1 : -(2 ^ 62) ≤ n) (b2 : n < 2 ^ 62) (q : ∀ D, H D = none → LcW (Itr 0 n.toNat) g tt te vs σ' H D (Q' D)) : ∃ j : Int, [V.int n] = [.int j] ∧ -(2 ^ 62) ≤ j ∧ j < 2 ^ 62 ∧ ∀ D, H D = none → LcW (Itr 0 j.toNat) g tt te vs σ' H D (Q' D) := ⟨n, rfl, b1, b2, q⟩
theorem c_rng2 {lo hi : Int} {g : TG} {tt : TT} {vs : List Nat} {σ' : L2.St} {Q' : Addr → Hp → Prop} (b : -(2 ^ 62) ≤ lo ∧ lo < 2 ^ 62 ∧ -(2 ^ 62) ≤ hi ∧ hi < 2 ^ 62) (q : ∀ D, H D = none → LcW (Itr lo (hi - lo).toNat) g tt te vs σ' H D (Q' D)) : ∃ i j : Int, [V.int lo, V.int hi] = [.int i, .int j] ∧ (-(2 ^ 62) ≤ i ∧ i < 2 ^ 62 ∧ -(2 ^ 62) ≤ j ∧ j < 2 ^ 62) ∧ ∀ D, H D = none → LcW (Itr i (j - i).toNat) g tt te vs σ' H D (Q' D) := ⟨lo, hi, rfl, b, q⟩
theorem c_list {a : Addr} {xs : List V} {g : TG} {tt : TT} {vs : List Nat} {σ' : L2.St} {Q' : Addr → Hp → Prop} (h : SqL K H a xs) (q : ∀ D, H D = none → LcW (Itl K a) g tt te vs σ' H D (Q' D)) : ∃ b, V.ref a = .ref b ∧ (∃ xs, SqL K H b xs) ∧ ∀ D, H D = none → LcW (Itl K b) g tt te vs σ' H D (Q' D) := ⟨a, rfl, ⟨xs, h⟩, q⟩
theorem c_tup {a : Addr} {xs : List V} {g : TG} {tt : TT} {vs : List Nat} {σ' : L2.St} {Q' : Addr → Hp → Prop} (h : SqT K H a xs) (q : ∀ D, H D = none → LcW (Itt K a) g tt te vs σ' H D (Q' D)) : ∃ b, V.ref a = .ref b ∧ (∃ xs, SqT K H b xs) ∧ ∀ D, H D = none → LcW (Itt K b) g tt te vs σ' H D (Q' D) := ⟨a, rfl, ⟨xs, h⟩, q⟩
/-- a turn of a comprehension over a name: the test, the item -/
def LcT (tt : TT) (te : TE) (D : Addr) (N : Hp → Prop) (σ : L2.St) (H : Hp) : Prop := tt σ H fun b H3 => if b = true then te σ H3 fun y H4 => ∃ acc, H4 D = some (.lst acc) ∧ acc.length < sizeLine ∧ N (upd H4 D (.lst (acc ++ [y]))) else N H3
theorem lcw_range {lo : Int} {n : Nat} {tt : TT} {vs : List Nat} {H1 : Hp} {D : Addr} {Qd : Hp → Prop} (Pv : Nat → Hp → Prop) (h0 : Pv 0 (upd H1 D (.lst []))) (hw : ∀ x, wipe ((wipe σ vs).set j (some x)) vs = wipe σ vs)
    (hs : ∀ i H, i < n → Pv i H → LcT tt te D (Pv (i + 1)) ((wipe σ vs).set j (some (.int (lo + i)))) H) (hd : ∀ H, Pv n H → Qd H) : LcW (Itr lo n) (gName j) tt te vs σ H1 D Qd :=
  lc_range Pv h0 (fun i H hi p => ⟨hw _, hs i H hi p⟩) hd
theorem lcw_list {a : Addr} {xs : List V} {tt : TT} {vs : List Nat} {H1 : Hp} {D : Addr} {Qd : Hp → Prop} (Pv : Nat → Hp → Prop) (h0 : Pv 0 (upd H1 D (.lst []))) (hw : ∀ x, wipe ((wipe σ vs).set j (some x)) vs = wipe σ vs) (hl : ∀ i H, i ≤ xs.length → Pv i H → SqL K H a xs)
    (hs : ∀ i x H, xs[i]? = some x → Pv i H → LcT tt te D (Pv (i + 1)) ((wipe σ vs).set j (some x)) H) (hd : ∀ H, Pv xs.length H → Qd H) : LcW (Itl K a) (gName j) tt te vs σ H1 D Qd :=
  lc_list Pv h0 hl (fun i x H hi p => ⟨hw _, hs i x H hi p⟩) hd
theorem lcw_tup {a : Addr} {xs : List V} {tt : TT} {vs : List Nat} {H1 : Hp} {D : Addr} {Qd : Hp → Prop} (Pv : Nat → Hp → Prop) (h0 : Pv 0 (upd H1 D (.lst []))) (hw : ∀ x, wipe ((wipe σ vs).set j (some x)) vs = wipe σ vs) (hl : ∀ i H, i ≤ xs.length → Pv i H → SqT K H a xs)
    (hs : ∀ i x H, xs[i]? = some x → Pv i H → LcT tt te D (Pv (i + 1)) ((wipe σ vs).set j (some x)) H) (hd : ∀ H, Pv xs.length H → Qd H) : LcW (Itt K a) (gName j) tt te vs σ H1 D Qd :=
  lc_tup Pv h0 hl (fun i x H hi p => ⟨hw _, hs i x H hi p⟩) hd
theorem lct_yes {D : Addr} {N : Hp → Prop} (h : te σ H fun y H4 => ∃ acc, H4 D = some (.lst acc) ∧ acc.length < sizeLine ∧ N (upd H4 D (.lst (acc ++ [y])))) : LcT tYes te D N σ H := r_iteT (B := N H) h
theorem lct_if {tt : TT} {D : Addr} {N : Hp → Prop} (h : tt σ H fun b H3 => if b = true then te σ H3 fun y H4 => ∃ acc, H4 D = some (.lst acc) ∧ acc.length < sizeLine ∧ N (upd H4 D (.lst (acc ++ [y]))) else N H3) : LcT tt te D N σ H := h
end
section
variable {X : Cx}
theorem call_int : CallR X (.type "int") rInt := call_int1
theorem call_abs : CallR X (.builtin "abs") rAbs := L2.call_abs
theorem call_max2 (hc : X.calm = true) : CallR X (.builtin "max") rMax2 := L2.call_max2 hc
theorem call_min2 (hc : X.calm = true) : CallR X (.builtin "min") rMin2 := L2.call_min2 hc
theorem call_len : CallR X (.builtin "len") (rLenS X.K) := L2.call_len_seq
theorem call_list : CallR X (.type "list") (rList X.K) := L2.call_list_of
def rTup (K : PySem.W.Frag) : List V → Hp → VK → Prop := fun xs H Q => ∃ p ys, xs = [.ref p] ∧ ((SqL K H p ys ∧ ∀ l, H l = none → Q (.ref l) (upd H l (.tup ys))) ∨ (SqT K H p ys ∧ Q (.ref p) H))
theorem call_tuple : CallR X (.type "tuple") (rTup X.K) := L2.call_tuple_of
theorem r_tupL {K : PySem.W.Frag} {H : Hp} {Q : VK} {a : Addr} {xs : List V} (h : SqL K H a xs) (q : ∀ l, H l = none → Q (.ref l) (upd H l (.tup xs))) : rTup K [.ref a] H Q := ⟨a, xs, rfl, .inl ⟨h, q⟩⟩
theorem r_tupT {K : PySem.W.Frag} {H : Hp} {Q : VK} {a : Addr} {xs : List V} (h : SqT K H a xs) (q : Q (.ref a) H) : rTup K [.ref a] H Q := ⟨a, xs, rfl, .inr ⟨h, q⟩⟩
def rBool : List V → Hp → VK → Prop := fun xs H Q => (∃ i, xs = [.int i] ∧ Q (.bl (i != 0)) H) ∨ ∃ k, xs = [.bl k] ∧ Q (.bl k) H
theorem call_bool : CallR X (.type "bool") rBool := L2.call_bool1
theorem r_ixSL {K : PySem.W.Frag} {H : Hp} {Q : VK} {a : Addr} {xs : List V} {z : Int} {v : V} (h : SqL K H a xs) (e : atI xs z = some v) (q : Q v H) : rIx K (.ref a) (.int z) H Q := .inl ⟨a, xs, z, v, rfl, rfl, h, e, q⟩
theorem r_ixST {K : PySem.W.Frag} {H : Hp} {Q : VK} {a : Addr} {xs : List V} {z : Int} {v : V} (h : SqT K H a xs) (e : atI xs z = some v) (q : Q v H) : rIx K (.ref a) (.int z) H Q := .inr (.inl ⟨a, xs, z, v, rfl, rfl, h, e, q⟩)
def rIsN : R2 := fun x y H Q => y = .non ∧ Q (.bl (decide (x = .non))) H
def rNotN : R2 := fun x y H Q => y = .non ∧ Q (.bl (!decide (x = .non))) H
theorem op_isN : OpR X (compareOp .Is) rIsN := L2.op_isN
theorem op_notN : OpR X (compareOp .IsNot) rNotN := L2.op_notN
theorem r_isN {x : V} {H : Hp} {Q : VK} (q : Q (.bl (decide (x = .non))) H) : rIsN x .non H Q := ⟨rfl, q⟩
theorem r_notN {x : V} {H : Hp} {Q : VK} (q : Q (.bl (!decide (x = .non))) H) : rNotN x .non H Q := ⟨rfl, q⟩
end
section
variable {K : PySem.W.Frag} {σ : L2.St} {H : Hp} {Q : VK} {nx bk ct : L2.St → Hp → Prop} {rt : VK} {te : TE}
/-- into an except suite -/
theorem r_as {C : Addr} {d : Option Addr} {i : Nat} {ts : Addr → Value → Option Addr → TS} {Wo : WX} (k : Xk K C) (h : ∀ a, H a = none → ts a (.ref C) d (Ends.mk (fun σ' H' => nx (σ'.set i none) H') rt (fun σ' H' => bk (σ'.set i none) H') (fun σ' H' => ct (σ'.set i none) H')) (σ.set i (some (.ref a))) H) :
    WE (wAs K (.ref C) i ts Wo (Ends.mk nx rt bk ct)) σ (.ref C) d H := ⟨true, k.ex, fun _ => h, fun z => Bool.noConfusion z⟩
theorem r_isXr {D a C : Addr} {d : Option Addr} {b : Bool} (e : PySem.W.kitOne K (.ref D) (.ref C) = some b) (hd : d = none ∨ ∃ dd fs, d = some dd ∧ H dd = some (.xd fs)) (q : Q (.bl b) H) : rIsX K D a (.ref D) d [.ref a, .ref C] H Q := ⟨.ref C, .ref C, b, rfl, rfl, fun _ h => h, e, hd, q⟩
theorem r_isXt {D a : Addr} {n : String} {d : Option Addr} {b : Bool} (e : PySem.W.kitOne K (.ref D) (.type n) = some b) (hd : d = none ∨ ∃ dd fs, d = some dd ∧ H dd = some (.xd fs)) (q : Q (.bl b) H) : rIsX K D a (.ref D) d [.ref a, .ty n] H Q := ⟨.ty n, .type n, b, rfl, rfl, fun _ h => h, e, hd, q⟩
theorem r_xf {a C : Addr} {cls : Value} {d : Option Addr} {f : Str} (h : te σ H fun x H1 => x = .ref a ∧ cls = .ref C ∧ ∃ (dd : Addr) (fs : List (Str × V)) (v : V), d = some dd ∧ H1 dd = some (.xd fs) ∧ fs.lookup f = some v ∧ Q v H1) : tXf a cls d C f te σ H Q := h
theorem r_xfv {a C dd : Addr} {f : Str} {fs : List (Str × V)} {v : V} {R : V → Prop} (h : H dd = some (.xd fs)) (l : fs.lookup f = some v) (q : R v) : V.ref a = .ref a ∧ Value.ref C = .ref C ∧ ∃ (dd' : Addr) (fs : List (Str × V)) (v : V), some dd = some dd' ∧ H dd' = some (.xd fs) ∧ fs.lookup f = some v ∧ R v := ⟨rfl, rfl, dd, fs, v, rfl, h, l, q⟩
end
end Vb
namespace Vb
open PySem PySem.Spec PyProof.Rows L2
/-! ### what stands, carried on -/
theorem h_new {H : Hp} {p q : Addr} {o u : HO} (n : H p = none) (h : H q = some u) : upd H p o q = some u := by
  rw [upd_ne (ne_of_none h n)]
  exact h
theorem h_ne {H : Hp} {p q : Addr} {o u : HO} (n : q ≠ p) (h : H q = some u) : upd H p o q = some u := by
  rw [upd_ne n]
  exact h
theorem h_no {H : Hp} {p q : Addr} {o : HO} (n : q ≠ p) (h : H q = none) : upd H p o q = none := by
  rw [upd_ne n]
  exact h
theorem sq_of {K : PySem.W.Frag} {H : Hp} {a : Addr} {xs : List V} (h : H a = some (.lst xs)) : SqL K H a xs := .inl (.inl h)
theorem st_of {K : PySem.W.Frag} {H : Hp} {a : Addr} {xs : List V} (h : H a = some (.tup xs)) : SqT K H a xs := .inl (.inl h)
theorem same_new {H : Hp} {p : Addr} {o : HO} (n : H p = none) : Same H (upd H p o) := fun _ _ h => h_new n h
/-- an object that H does not know may change -/
theorem same_mut {H H' : Hp} {p : Addr} {o : HO} (e : Same H H') (h : H p = none) : Same H (upd H' p o) := fun a u ha => h_ne (ne_of_none ha h) (e a u ha)
/-- all but st is as it was -/
structure Fr (st : Addr) (H H' : Hp) : Prop where
  k : ∀ b o, b ≠ st → H b = some o → H' b = some o
  hd : ∀ l r, H st = some (.lst (.ref l :: r)) → ∃ r', H' st = some (.lst (.ref l :: r'))
theorem Fr.refl (st : Addr) (H : Hp) : Fr st H H := ⟨fun _ _ _ h => h, fun _ r h => ⟨r, h⟩⟩
theorem Fr.trans {st : Addr} {H H1 H2 : Hp} (a : Fr st H H1) (b : Fr st H1 H2) : Fr st H H2 := ⟨fun c o n h => b.k c o n (a.k c o n h), fun l r h => (a.hd l r h).elim fun r' h' => b.hd l r' h'⟩
theorem Fr.of {st : Addr} {H H' : Hp} (a : Same H H') : Fr st H H' := ⟨fun c o _ h => a c o h, fun _ r h => ⟨r, a _ _ h⟩⟩
theorem Fr.seq {K : PySem.W.Frag} {st : Addr} {H H' : Hp} {a : Addr} {xs : List V} (e : Fr st H H') (n : a ≠ st) (h : SqL K H a xs) : SqL K H' a xs := by
  rcases h with (h | ⟨o, h⟩) | h
  · exact .inl (.inl (e.k _ _ n h))
  · exact .inl (.inr ⟨o, e.k _ _ n h⟩)
  · exact .inr h
theorem Fr.mut {st p : Addr} {H H' : Hp} {o : HO} (e : Fr st H H') (h : H p = none) : Fr st H (upd H' p o) := ⟨fun a u n ha => h_ne (ne_of_none ha h) (e.k a u n ha), fun l r ha => (e.hd l r ha).elim fun r' h' => ⟨r', h_ne (ne_of_none ha h) h'⟩⟩
/-- the law's store at st: what is left of the script, a great number that is being used up, a count, a seed -/
def StoreAt (H : Hp) (st : Addr) : Prop := ∃ (l : Addr) (ns : List Int) (pos rest turn seed : Int), l ≠ st ∧ H st = some (.lst [.ref l, .int pos, .int rest, .int turn, .int seed]) ∧ H l = some (.lst (ns.map V.int)) ∧ 0 ≤ pos ∧ 0 ≤ rest
theorem StoreAt.same {H H' : Hp} {st : Addr} (s : StoreAt H st) (e : Same H H') : StoreAt H' st := by
  obtain ⟨l, ns, a, b, c, d, n, h1, h2, h3⟩ := s
  exact ⟨l, ns, a, b, c, d, n, e _ _ h1, e _ _ h2, h3⟩
theorem StoreAt.ne {H : Hp} {st p : Addr} (s : StoreAt H st) (h : H p = none) : p ≠ st := by
  obtain ⟨l, ns, a, b, c, d, n, h1, _⟩ := s
  exact fun z => by rw [z, h1] at h; cases h
/-- the script's list is not the one that H did not know -/
theorem StoreAt.mut {H H' : Hp} {st p : Addr} {o : HO} (s : StoreAt H st) (n : H p = none) (f : Fr st H H') (s' : StoreAt H' st) : StoreAt (upd H' p o) st := by
  obtain ⟨l, ns, a, b, c, d, n1, h1, h2, h3, h4⟩ := s
  obtain ⟨m, ms, a', b', c', d', m1, g1, g2, g3, g4⟩ := s'
  obtain ⟨r', e⟩ := f.hd _ _ h1
  rw [g1] at e
  cases e
  exact ⟨_, ms, a', b', c', d', m1, h_ne (ne_of_none h1 n) g1, h_ne (ne_of_none h2 n) g2, g3, g4⟩
theorem at_i {xs : List V} {j : Nat} {v : V} (h : xs[j]? = some v) : atI xs (j : Int) = some v := atI_nat h
theorem at_lit {xs : List V} {z : Int} {v : V} (j : Nat) (e : z = (j : Int)) (h : xs[j]? = some v) : atI xs z = some v := by
  rw [e]
  exact atI_nat h
theorem ix_lit {n : Nat} {z : Int} (j : Nat) (e : z = (j : Int)) (h0 : Nat.ble (j + 1) n = true) : ixN n z = some j := by
  have h := Nat.le_of_ble_eq_true h0
  subst e
  unfold ixN
  rw [if_pos (Int.natCast_nonneg j), if_pos (by omega)]
  rfl
theorem getV {ns : List Int} {i : Nat} (h : i < ns.length) : (ns.map V.int)[i]? = some (.int ns[i]) := by
  rw [List.getElem?_map, List.getElem?_eq_getElem h]
  rfl
theorem getV' {ns : List Int} {i : Nat} {x : V} (h : (ns.map V.int)[i]? = some x) : ∃ z, ns[i]? = some z ∧ x = .int z := by
  rw [List.getElem?_map] at h
  cases e : ns[i]? with
  | none => rw [e] at h; cases h
  | some z => rw [e] at h; exact ⟨z, rfl, (Option.some.inj h).symm⟩
theorem size_ok {n : Nat} (h : n ≤ 16777216) : n ≤ sizeLine := by rw [sizeLine_eq]; exact h
theorem size_lt {n : Nat} (h : n < 16777216) : n < sizeLine := by rw [sizeLine_eq]; exact h
end Vb
namespace Vb
open PySem PySem.Spec PyProof.Rows L2
/-! ### data -/
mutual
theorem dp_same {K : PySem.W.Frag} {H H' : Hp} (e : Same H H') : ∀ (d : PyData) (v : V), Dp K H v d → Dp K H' v d
  | .none, _, h => by cases h; exact .non
  | .bool b, _, h => by cases h; exact .bl b
  | .int i, _, h => by cases h; exact .int i
  | .str x, _, h => by cases h; exact .str x
  | .list ds, _, h => by
    cases h with
    | lst hs ha => exact .lst (e.seq hs) (dpa_same e ds _ ha)
  | .tuple ds, _, h => by
    cases h with
    | tup hs ha =>
      refine .tup ?_ (dpa_same e ds _ ha)
      rcases hs with (h | ⟨o, h⟩) | h
      · exact .inl (.inl (e _ _ h))
      · exact .inl (.inr ⟨o, e _ _ h⟩)
      · exact .inr h
  | .dict _, _, h => by cases h
theorem dpa_same {K : PySem.W.Frag} {H H' : Hp} (e : Same H H') : ∀ (ds : List PyData) (vs : List V), DpAll K H vs ds → DpAll K H' vs ds
  | [], _, h => by cases h; exact .nil
  | d :: ds, _, h => by
    cases h with
    | cons h1 h2 => exact .cons (dp_same e d _ h1) (dpa_same e ds _ h2)
end
theorem same_sqt {K : PySem.W.Frag} {H H' : Hp} {a : Addr} {xs : List V} (e : Same H H') (h : SqT K H a xs) : SqT K H' a xs := by
  rcases h with (h | ⟨o, h⟩) | h
  · exact .inl (.inl (e _ _ h))
  · exact .inl (.inr ⟨o, e _ _ h⟩)
  · exact .inr h
theorem dpa_len {K : PySem.W.Frag} {H : Hp} : ∀ {ds : List PyData} {vs : List V}, DpAll K H vs ds → vs.length = ds.length
  | [], _, h => by cases h; rfl
  | d :: ds, _, h => by
    cases h with
    | cons h1 h2 => rw [List.length_cons, List.length_cons, dpa_len h2]
theorem dpa_get {K : PySem.W.Frag} {H : Hp} : ∀ {ds : List PyData} {vs : List V} {i : Nat} {v : V}, DpAll K H vs ds → vs[i]? = some v → ∃ d, ds[i]? = some d ∧ Dp K H v d
  | [], _, i, v, h, e => by cases h; simp at e
  | d :: ds, _, 0, v, h, e => by
    cases h with
    | cons h1 h2 =>
      cases (Option.some.inj e)
      exact ⟨d, rfl, h1⟩
  | d :: ds, _, i + 1, v, h, e => by
    cases h with
    | cons h1 h2 =>
      obtain ⟨x, a, b⟩ := dpa_get (i := i) h2 (by simpa using e)
      exact ⟨x, by simpa using a, b⟩
theorem dpa_at {K : PySem.W.Frag} {H : Hp} : ∀ {ds : List PyData} {vs : List V} {i : Nat} {d : PyData}, DpAll K H vs ds → ds[i]? = some d → ∃ v, vs[i]? = some v ∧ Dp K H v d
  | [], _, i, d, h, e => by simp at e
  | x :: ds, _, 0, d, h, e => by
    cases h with
    | @cons v vs _ _ h1 h2 =>
      cases (Option.some.inj e)
      exact ⟨v, rfl, h1⟩
  | x :: ds, _, i + 1, d, h, e => by
    cases h with
    | cons h1 h2 =>
      obtain ⟨v, a, b⟩ := dpa_at (i := i) h2 (by simpa using e)
      exact ⟨v, by simpa using a, b⟩
theorem dpa_app {K : PySem.W.Frag} {H : Hp} : ∀ {ds es : List PyData} {vs us : List V}, DpAll K H vs ds → DpAll K H us es → DpAll K H (vs ++ us) (ds ++ es)
  | [], _, _, _, h, g => by cases h; exact g
  | d :: ds, es, _, us, h, g => by
    cases h with
    | cons h1 h2 => exact .cons h1 (dpa_app h2 g)
/-- ints as data -/
theorem dpa_ints {K : PySem.W.Frag} {H : Hp} : ∀ ns : List Int, DpAll K H (ns.map V.int) (ns.map PyData.int)
  | [] => .nil
  | n :: ns => .cons (.int n) (dpa_ints ns)
theorem dp_ints {K : PySem.W.Frag} {H : Hp} {a : Addr} {ns : List Int} (h : SqL K H a (ns.map V.int)) : Dp K H (.ref a) (.list (ns.map PyData.int)) := .lst h (dpa_ints ns)
/-- nested less than n deep, no list too long, no dicts -/
def DOk : Nat → PyData → Prop
  | 0, _ => False
  | n + 1, .list ds => ds.length ≤ 1000000 ∧ ∀ d ∈ ds, DOk n d
  | n + 1, .tuple ds => ds.length ≤ 1000000 ∧ ∀ d ∈ ds, DOk n d
  | _ + 1, .dict _ => False
  | _ + 1, _ => True
theorem dok_up : ∀ (n : Nat) (d : PyData), DOk n d → DOk (n + 1) d
  | 0, _, h => h.elim
  | n + 1, .list ds, h => ⟨h.1, fun d m => dok_up n d (h.2 d m)⟩
  | n + 1, .tuple ds, h => ⟨h.1, fun d m => dok_up n d (h.2 d m)⟩
  | n + 1, .dict _, h => h
  | n + 1, .none, _ => trivial
  | n + 1, .bool _, _ => trivial
  | n + 1, .int _, _ => trivial
  | n + 1, .str _, _ => trivial
theorem dok_ints {n : Nat} {ns : List Int} (h : ns.length ≤ 1000000) : DOk (n + 2) (.list (ns.map PyData.int)) := ⟨by rw [List.length_map]; exact h, fun d m => by
  obtain ⟨z, _, rfl⟩ := List.mem_map.mp m
  trivial⟩
/-- the type of a piece of data -/
def tyN : PyData → String
  | .none => "NoneType"
  | .bool _ => "bool"
  | .int _ => "int"
  | .str _ => "str"
  | .list _ => "list"
  | .tuple _ => "tuple"
  | .dict _ => "dict"
theorem dp_ty {K : PySem.W.Frag} {H : Hp} {v : V} {d : PyData} (h : Dp K H v d) : TyX K H v (.type (tyN d)) := by
  cases h with
  | non => exact .base .non
  | bl b => exact .base (.bl b)
  | int i => exact .base (.int i)
  | str x => exact .base (.str x)
  | lst hs _ =>
    rcases hs with (h | ⟨o, h⟩) | h
    · exact .base (.lst h)
    · exact .base (.frz h)
    · obtain ⟨o, its, n, h, c, _⟩ := h
      exact .kList h c
  | tup hs _ =>
    rcases hs with (h | ⟨o, h⟩) | h
    · exact .base (.tup h)
    · exact .fTuple h
    · obtain ⟨o, its, n, h, c, _⟩ := h
      exact .kTuple h c
def isB : PyData → Bool | .bool _ => true | _ => false
def isI : PyData → Bool | .bool _ => true | .int _ => true | _ => false
def isS : PyData → Bool | .str _ => true | _ => false
def isL : PyData → Bool | .list _ => true | _ => false
def isT : PyData → Bool | .tuple _ => true | _ => false
theorem r_isi {K : PySem.W.Frag} {H : Hp} {v : V} {d : PyData} {Q : VK} {n : String} {b : Bool} (h : Dp K H v d) (e : kitB (tyN d) n = some b) (q : Q (.bl b) H) : rIsi K [v, .ty n] H Q := ⟨v, .ty n, _, _, b, rfl, .ty n, dp_ty h, kit_ty e, q⟩
theorem r_isB {K : PySem.W.Frag} {H : Hp} {v : V} {d : PyData} {Q : VK} {b : Bool} (h : Dp K H v d) (e : isB d = b) (q : Q (.bl b) H) : rIsi K [v, .ty "bool"] H Q := r_isi h (by subst e; cases h <;> (simp only [tyN, isB]; decide +kernel)) q
theorem r_isI {K : PySem.W.Frag} {H : Hp} {v : V} {d : PyData} {Q : VK} {b : Bool} (h : Dp K H v d) (e : isI d = b) (q : Q (.bl b) H) : rIsi K [v, .ty "int"] H Q := r_isi h (by subst e; cases h <;> (simp only [tyN, isI]; decide +kernel)) q
theorem r_isS {K : PySem.W.Frag} {H : Hp} {v : V} {d : PyData} {Q : VK} {b : Bool} (h : Dp K H v d) (e : isS d = b) (q : Q (.bl b) H) : rIsi K [v, .ty "str"] H Q := r_isi h (by subst e; cases h <;> (simp only [tyN, isS]; decide +kernel)) q
theorem r_isL {K : PySem.W.Frag} {H : Hp} {v : V} {d : PyData} {Q : VK} {b : Bool} (h : Dp K H v d) (e : isL d = b) (q : Q (.bl b) H) : rIsi K [v, .ty "list"] H Q := r_isi h (by subst e; cases h <;> (simp only [tyN, isL]; decide +kernel)) q
theorem r_isT {K : PySem.W.Frag} {H : Hp} {v : V} {d : PyData} {Q : VK} {b : Bool} (h : Dp K H v d) (e : isT d = b) (q : Q (.bl b) H) : rIsi K [v, .ty "tuple"] H Q := r_isi h (by subst e; cases h <;> (simp only [tyN, isT]; decide +kernel)) q
theorem not_non {K : PySem.W.Frag} {H : Hp} {v : V} {d : PyData} (h : Dp K H v d) (hd : d ≠ .none) : ¬ v = .non := by
  cases h with
  | non => exact absurd rfl hd
  | _ => exact fun c => nomatch c
theorem is_non {K : PySem.W.Frag} {H : Hp} {v : V} (h : Dp K H v .none) : v = .non := by
  cases h
  rfl
/-! ### all but some objects -/
def offs (Z : List Addr) (H : Hp) : Hp := fun b => if b ∈ Z then none else H b
theorem offs_of {Z : List Addr} {H : Hp} {b : Addr} {o : HO} (n : b ∉ Z) (h : H b = some o) : offs Z H b = some o := by
  unfold offs
  rw [if_neg n]
  exact h
theorem offs_some {Z : List Addr} {H : Hp} {b : Addr} {o : HO} (h : offs Z H b = some o) : b ∉ Z ∧ H b = some o := by
  unfold offs at h
  split at h
  · cases h
  · exact ⟨‹_›, h⟩
theorem offs_sub {Z : List Addr} {H : Hp} : Same (offs Z H) H := fun _ _ h => (offs_some h).2
theorem offs_nil {H : Hp} : Same H (offs [] H) := fun _ _ h => offs_of (by simp) h
theorem offs_same {Z : List Addr} {H H' : Hp} (e : Same H H') : Same (offs Z H) (offs Z H') := fun _ _ h => offs_of (offs_some h).1 (e _ _ (offs_some h).2)
theorem offs_more {Z : List Addr} {H : Hp} {D : Addr} : Same (offs (D :: Z) H) (offs Z H) := fun _ _ h => offs_of (fun m => (offs_some h).1 (List.mem_cons_of_mem _ m)) (offs_some h).2
theorem offs_new {Z : List Addr} {H : Hp} {D : Addr} (n : H D = none) : Same (offs Z H) (offs (D :: Z) H) := fun b o h => by
  have ⟨h1, h2⟩ := offs_some h
  refine offs_of (fun m => ?_) h2
  rcases List.mem_cons.mp m with e | m
  · rw [e, n] at h2; cases h2
  · exact h1 m
theorem offs_upd {Z : List Addr} {H : Hp} {D : Addr} {o : HO} : Same (offs (D :: Z) H) (offs (D :: Z) (upd H D o)) := fun b u h => by
  have ⟨h1, h2⟩ := offs_some h
  exact offs_of h1 (h_ne (fun e => h1 (by rw [e]; exact List.mem_cons_self)) h2)
theorem offs_fr {Z : List Addr} {st : Addr} {H H' : Hp} (e : Fr st H H') (m : st ∈ Z) : Same (offs Z H) (offs Z H') := fun b o h => by
  have ⟨h1, h2⟩ := offs_some h
  exact offs_of h1 (e.k b o (fun z => h1 (by rw [z]; exact m)) h2)
/-- all of Z is tracked -/
def Trk (Z : List Addr) (H : Hp) : Prop := ∀ z ∈ Z, ∃ o, H z = some o
theorem Trk.same {Z : List Addr} {H H' : Hp} (t : Trk Z H) (e : Same H H') : Trk Z H' := fun z m => by
  obtain ⟨o, h⟩ := t z m
  exact ⟨o, e _ _ h⟩
theorem Trk.new {Z : List Addr} {H : Hp} {D : Addr} (t : Trk Z H) (n : H D = none) : D ∉ Z := fun m => by
  obtain ⟨o, h⟩ := t D m
  rw [n] at h
  cases h
theorem Trk.nil {H : Hp} : Trk [] H := fun _ m => by cases m
theorem Trk.one {H : Hp} {a : Addr} {o : HO} (h : H a = some o) : Trk [a] H := fun z m => by
  cases List.mem_singleton.mp m
  exact ⟨o, h⟩
theorem dp_off {K : PySem.W.Frag} {Z : List Addr} {H : Hp} {v : V} {d : PyData} (h : Dp K (offs Z H) v d) : Dp K H v d := dp_same offs_sub _ _ h
theorem dp_lst {K : PySem.W.Frag} {H : Hp} {a : Addr} {xs : List V} {ds : List PyData} (h : H a = some (.lst xs)) (g : DpAll K H xs ds) : Dp K H (.ref a) (.list ds) := .lst (sq_of h) g
theorem dp_tup {K : PySem.W.Frag} {H : Hp} {a : Addr} {xs : List V} {ds : List PyData} (h : H a = some (.tup xs)) (g : DpAll K H xs ds) : Dp K H (.ref a) (.tuple ds) := .tup (st_of h) g
end Vb
namespace Vb
open PySem PySem.Spec PyProof.Rows L2
/-! ### range(a, b) of any size that has no turn -/
theorem turn_none {P : Program} {w : World} {K : PySem.W.Frag} {tg : Expr} (it : Addr) (lo : Int) : Turn P w K tg (Itr lo 0) [it] it (fun _ h => ∃ x left step, left ≤ 0 ∧ IsLongIter h it x left step) where
  mem := List.mem_singleton.mpr rfl
  obj := fun i h ⟨x, l, c, _, st⟩ b hb => by
    cases List.mem_singleton.mp hb
    exact ⟨_, st, fun v z => by cases (show Data.fields _ = Data.cell v from z)⟩
  keep := fun i h h' ⟨x, l, c, hl, st⟩ k => ⟨x, l, c, hl, k it (List.mem_singleton.mpr rfl) _ st⟩
  item := fun X _ _ _ _ i pins s σ H E _ _ _ hg => absurd (show i < 0 from hg) (Nat.not_lt_zero i)
  done := by
    intro X hP hw hK hc i pins s σ H E I hf st _
    obtain ⟨x, l, c, hl, st⟩ := st
    subst hP hw hK
    have q := hf it (List.mem_singleton.mpr rfl)
    exact wpAny_pyNext_long_end (I.ok.hd hc) st hl fun h' eb => ⟨rfl, I.turned (t' := s.toks) (fun b o hb e => eb b o hb e) q.1 q.2.1 q.2.2.2.1 q.2.2.2.2.1 q.2.2.2.2.2⟩
  self := fun _ _ _ _ _ ⟨_, _, _, _, st⟩ h => wpAny_pyIter_longiter st h
def iRngW (ta : TA) : TI := fun σ H R => ta σ H fun vs H1 => ∃ i j : Int, vs = [.int i, .int j] ∧ ((-(2 ^ 62) ≤ i ∧ i < 2 ^ 62 ∧ -(2 ^ 62) ≤ j ∧ j < 2 ^ 62) ∨ j ≤ i) ∧ R (Itr i (j - i).toNat) H1
section
variable {X : Cx} {tg : Expr}
theorem range_none {pins : List (Addr × Obj)} {σ : L2.St} {H : Hp} {s : Shared} {R : It → Hp → Prop} {E : Value → Shared → Prop} {lo hi : Int} {t u v : Tok} {tk : Nat} (I : Inv X pins σ H s) (hle : hi ≤ lo) (hs : Builtin.Range.small lo hi 1 = false)
    (q : R (Itr lo 0) H) : wpAny (model X.prog X.w) X.A (pyIter (.ref s.heap.objs.size)) (PIE X pins σ tg R) E { s with heap := s.heap.push { cls := .type "range", data := .fields #[.int lo t, .int hi u, .int 1 v] }, toks := tk } := by
  refine wpAny_pyIter_longrange (IsRange.new ..) hs ?_
  have I1 : Inv X pins σ H { s with heap := s.heap.push { cls := .type "range", data := .fields #[.int lo t, .int hi u, .int 1 v] }, toks := tk } := I.kept fun b o e => Heap.get?_push_of_some _ e
  have z : Builtin.Range.rangeSize lo hi 1 ≤ 0 := by rw [rangeSize_one, if_neg (by omega)]; exact Int.le_refl 0
  refine ⟨_, [_], _, Itr lo 0, H, rfl, I1.kept (t' := tk) fun b o e => Heap.get?_push_of_some _ e, turn_none _ lo, ⟨_, _, _, z, Heap.get?_push_size _ rfl⟩, fun b hb => ?_, q⟩
  cases List.mem_singleton.mp hb
  exact I1.fpOk (Nat.le_refl _) (I1.hok.fresh (Nat.le_refl _))
theorem pi_rangeW {a b : Expr} {ta : TA} {p pos : Pos} (hg : Gl X "range") (hm : X.mg "range" = none) (ha : PA X [a, b] ta) (hs : starEach [a, b] X.env = [(false, eval a X.env), (false, eval b X.env)] := by rfl) (hs2 : starEach [b] X.env = [(false, eval b X.env)] := by rfl) :
    PI X tg (.Call (.Name "range" p) [a, b] [] pos) (iRngW ta) := by
  refine ⟨fun pins s σ H R I h => ?_⟩
  refine Call_ (ld_blt I hg hm boot_range (PyProof.Rows.callWith_type1 (thn (ha.run pos pins s σ H _ I h) fun us s1 hh => ?_) (by rw [hs, hs2]) (by rw [hs2]; rfl)))
  obtain ⟨vs, H1, I1, r1, i, j, ev, hb, q⟩ := hh
  subst ev
  obtain ⟨u1, u2, rfl, ⟨t1, rfl⟩, ⟨t2, rfl⟩⟩ := vals2 r1
  refine call_range_2 ?_
  rcases hb with hb | hb
  · exact range_it I1 hb.1 hb.2.1 hb.2.2.1 hb.2.2.2 q
  · have e : (j - i).toNat = 0 := by omega
    rw [e] at q
    cases hsm : Builtin.Range.small i j 1 with
    | false => exact range_none I1 hb hsm q
    | true =>
      refine wpAny_pyIter_range (IsRange.new ..) hsm ?_
      have I2 := I1.kept (h' := s1.heap.push { cls := .type "range", data := .fields #[.int i t1, .int j t2, .int 1 s1.toks] }) (t' := s1.toks + 1) fun b o e => Heap.get?_push_of_some _ e
      have z : Builtin.Range.rangeSize i j 1 = 0 := by rw [rangeSize_one, if_neg (by omega)]
      refine ⟨_, [_], _, Itr i 0, H1, rfl, I2.kept fun b o e => Heap.get?_push_of_some _ e, turn_range _ i 0, ?_, fun b hb => ?_, q⟩
      · show IsRangeIter _ _ (i + ((0 : Nat) : Int) * 1) (((0 : Nat) : Int) - ((0 : Nat) : Int)) 1
        rw [show i + ((0 : Nat) : Int) * 1 = i by omega, show ((0 : Nat) : Int) - ((0 : Nat) : Int) = Builtin.Range.rangeSize i j 1 by omega]
        exact Heap.get?_push_size _ rfl
      · cases List.mem_singleton.mp hb
        exact I2.fpOk (Nat.le_refl _) (I2.hok.fresh (Nat.le_refl _))
end
section
variable {K : PySem.W.Frag} {σ : L2.St} {H : Hp} {te : TE} {ts : TS} {nx : L2.St → Hp → Prop} {rt : VK}
theorem r_rngW {ta : TA} {R : It → Hp → Prop} (h : ta σ H fun vs H1 => ∃ i j : Int, vs = [.int i, .int j] ∧ ((-(2 ^ 62) ≤ i ∧ i < 2 ^ 62 ∧ -(2 ^ 62) ≤ j ∧ j < 2 ^ 62) ∨ j ≤ i) ∧ R (Itr i (j - i).toNat) H1) : iRngW ta σ H R := h
theorem f_rngW {lo hi : Int} {g : TG} (b : (-(2 ^ 62) ≤ lo ∧ lo < 2 ^ 62 ∧ -(2 ^ 62) ≤ hi ∧ hi < 2 ^ 62) ∨ hi ≤ lo) (q : ForW (Itr lo (hi - lo).toNat) g ts nx rt σ H) : ∃ i j : Int, [V.int lo, V.int hi] = [.int i, .int j] ∧ ((-(2 ^ 62) ≤ i ∧ i < 2 ^ 62 ∧ -(2 ^ 62) ≤ j ∧ j < 2 ^ 62) ∨ j ≤ i) ∧ ForW (Itr i (j - i).toNat) g ts nx rt σ H := ⟨lo, hi, rfl, b, q⟩
theorem c_rngW {lo hi : Int} {g : TG} {tt : TT} {vs : List Nat} {σ' : L2.St} {Q' : Addr → Hp → Prop} (b : (-(2 ^ 62) ≤ lo ∧ lo < 2 ^ 62 ∧ -(2 ^ 62) ≤ hi ∧ hi < 2 ^ 62) ∨ hi ≤ lo) (q : ∀ D, H D = none → LcW (Itr lo (hi - lo).toNat) g tt te vs σ' H D (Q' D)) : ∃ i j : Int, [V.int lo, V.int hi] = [.int i, .int j] ∧ ((-(2 ^ 62) ≤ i ∧ i < 2 ^ 62 ∧ -(2 ^ 62) ≤ j ∧ j < 2 ^ 62) ∨ j ≤ i) ∧ ∀ D, H D = none → LcW (Itr i (j - i).toNat) g tt te vs σ' H D (Q' D) := ⟨lo, hi, rfl, b, q⟩
end
/-! ### primes -/
def isP (n : Int) : Bool := decide (2 ≤ n) && (List.range n.toNat).all fun d => decide (d < 2) || decide (n % (d : Int) ≠ 0)
def Prm (n : Int) : Prop := 2 ≤ n ∧ ∀ d : Int, 2 ≤ d → d < n → n % d ≠ 0
theorem isP_iff (n : Int) : isP n = true ↔ Prm n := by
  unfold isP Prm
  rw [Bool.and_eq_true, decide_eq_true_eq, List.all_eq_true]
  refine ⟨fun ⟨h1, h2⟩ => ⟨h1, fun d a b => ?_⟩, fun ⟨h1, h2⟩ => ⟨h1, fun d m => ?_⟩⟩
  · have z := h2 d.toNat (List.mem_range.mpr (by omega))
    rw [Bool.or_eq_true, decide_eq_true_eq, decide_eq_true_eq] at z
    rcases z with z | z
    · omega
    · rwa [show ((d.toNat : Nat) : Int) = d by omega] at z
  · have m := List.mem_range.mp m
    rw [Bool.or_eq_true, decide_eq_true_eq, decide_eq_true_eq]
    by_cases c : d < 2
    · exact .inl c
    · exact .inr (h2 d (by omega) (by omega))
/-- no divisor up to the root: none at all -/
theorem prm_root {n D : Int} (h2 : 2 ≤ n) (hD : 2 ≤ D) (hs : n < D * D) (h : ∀ d : Int, 2 ≤ d → d < D → n % d ≠ 0) : Prm n := by
  refine ⟨h2, fun d a b z => ?_⟩
  have hd : d * (n / d) = n := Int.mul_ediv_cancel' (Int.dvd_of_emod_eq_zero z)
  by_cases c : d < D
  · exact h d a c z
  · have e1 : n / d < D := by
      by_cases c2 : n / d < D
      · exact c2
      · exact absurd (Int.mul_le_mul (show D ≤ d by omega) (show D ≤ n / d by omega) (by omega) (by omega)) (by omega)
    have e2 : 2 ≤ n / d := by
      have p : 1 ≤ n / d := by
        by_cases c3 : n / d ≤ 0
        · have := Int.mul_nonpos_of_nonneg_of_nonpos (show 0 ≤ d by omega) c3
          omega
        · omega
      by_cases c4 : n / d = 1
      · rw [c4] at hd; omega
      · omega
    refine h (n / d) e2 e1 ?_
    have e3 : n % (n / d) = 0 := by
      have : (d * (n / d)) % (n / d) = 0 := Int.mul_emod_left ..
      rwa [hd] at this
    exact e3
theorem not_prm {n d : Int} (h2 : 2 ≤ d) (h : d < n) (z : n % d = 0) : ¬ Prm n := fun p => p.2 d h2 h z
/-- the primes up to a limit -/
def upto (n : Int) : List Int := ((List.range (n + 1).toNat).map Int.ofNat).filter isP
theorem mem_upto {n p : Int} : p ∈ upto n ↔ Prm p ∧ p ≤ n := by
  unfold upto
  rw [List.mem_filter, isP_iff, List.mem_map]
  refine ⟨fun ⟨⟨k, m, e⟩, q⟩ => ⟨q, ?_⟩, fun ⟨q, l⟩ => ⟨⟨p.toNat, ?_, ?_⟩, q⟩⟩
  · have := List.mem_range.mp m
    have e' : (k : Int) = p := e
    omega
  · exact List.mem_range.mpr (by have := q.1; omega)
  · show ((p.toNat : Nat) : Int) = p
    have := q.1
    omega
theorem upto_low {n : Int} (h : n < 2) : upto n = [] := by
  refine List.eq_nil_iff_forall_not_mem.mpr fun p m => ?_
  obtain ⟨q, l⟩ := mem_upto.mp m
  have := q.1
  omega
theorem upto_next {n : Int} (h : 0 ≤ n + 1) : upto (n + 1) = upto n ++ (if isP (n + 1) then [n + 1] else []) := by
  unfold upto
  rw [show (n + 1 + 1).toNat = (n + 1).toNat + 1 by omega, List.range_succ, List.map_append, List.filter_append]
  congr 1
  rw [List.map_cons, List.map_nil, show Int.ofNat (n + 1).toNat = n + 1 by show (((n + 1).toNat : Nat) : Int) = n + 1; omega]
  rw [List.filter_cons, List.filter_nil]
theorem upto_len {n : Int} : (upto n).length ≤ (n + 1).toNat := by
  unfold upto
  refine Nat.le_trans (List.length_filter_le _ _) ?_
  rw [List.length_map, List.length_range]
  exact Nat.le_refl _
end Vb
namespace Vb
open PySem PySem.Spec PyProof.Rows L2
theorem least_prime : ∀ (k : Nat) (n d : Int), d.toNat ≤ k → 2 ≤ d → n % d = 0 → ∃ q, Prm q ∧ q ≤ d ∧ n % q = 0
  | 0, n, d, h, h2, _ => by omega
  | k + 1, n, d, h, h2, z => by
    by_cases p : Prm d
    · exact ⟨d, p, Int.le_refl _, z⟩
    · have ⟨e, e1, e2, e3⟩ : ∃ e : Int, 2 ≤ e ∧ e < d ∧ d % e = 0 := by
        refine Classical.byContradiction fun c => p ⟨h2, fun e a b y => c ⟨e, a, b, y⟩⟩
      have z2 : n % e = 0 := Int.emod_eq_zero_of_dvd (Int.dvd_trans (Int.dvd_of_emod_eq_zero e3) (Int.dvd_of_emod_eq_zero z))
      obtain ⟨q, a, b, c⟩ := least_prime k n e (by omega) e1 z2
      exact ⟨q, a, by omega, c⟩
/-- a number that no smaller prime divides is one -/
theorem prm_of {n : Int} (h2 : 2 ≤ n) (h : ∀ q, Prm q → q < n → n % q ≠ 0) : Prm n := ⟨h2, fun d a b z => by
  obtain ⟨q, p, l, y⟩ := least_prime d.toNat n d (Nat.le_refl _) a z
  exact h q p (by omega) y⟩
theorem upto_sorted (n : Int) : (upto n).Pairwise (· < ·) := by
  unfold upto
  refine List.Pairwise.filter _ (List.pairwise_map.mpr ?_)
  refine List.Pairwise.imp (fun {a b} h => ?_) List.pairwise_lt_range
  show (a : Int) < (b : Int)
  omega
theorem sorted_ahead : ∀ {xs : List Int} {j : Nat} {p q : Int}, xs.Pairwise (· < ·) → xs[j]? = some p → q ∈ xs → q < p → ∃ k, k < j ∧ xs[k]? = some q
  | [], j, p, q, _, _, m, _ => by cases m
  | x :: xs, 0, p, q, s, e, m, l => by
    cases (Option.some.inj e)
    rcases List.mem_cons.mp m with rfl | m
    · omega
    · have := (List.pairwise_cons.mp s).1 q m
      omega
  | x :: xs, j + 1, p, q, s, e, m, l => by
    rcases List.mem_cons.mp m with rfl | m
    · exact ⟨0, by omega, rfl⟩
    · obtain ⟨k, a, b⟩ := sorted_ahead (List.pairwise_cons.mp s).2 (by simpa using e) m l
      exact ⟨k + 1, by omega, by simpa using b⟩
theorem rgc_pos {i j c : Int} (hc : 0 < c) (hc2 : c < 1073741824) (hi : -1000000000 ≤ i ∧ i ≤ 1000000000) (hj : -1000000000 ≤ j ∧ j ≤ 1000000000) : RgC i j c (Builtin.Range.rangeSize i j c).toNat := by
  have hr : Builtin.Range.rangeSize i j c = if i < j then (j - i - 1) / c + 1 else 0 := by
    unfold Builtin.Range.rangeSize
    rw [if_pos (by omega)]
  have h0 : 0 ≤ Builtin.Range.rangeSize i j c := by
    rw [hr]
    split
    · have := Int.ediv_nonneg (show 0 ≤ j - i - 1 by omega) (show 0 ≤ c by omega)
      omega
    · omega
  have h1 : Builtin.Range.rangeSize i j c ≤ 2000000001 := by
    rw [hr]
    split
    · have := Int.ediv_le_self c (show 0 ≤ j - i - 1 by omega)
      omega
    · omega
  refine ⟨by omega, by omega, ?_, by omega⟩
  unfold Builtin.Range.small
  simp only [Builtin.Range.rangeFitsLong, Bool.and_eq_true, Bool.or_eq_true, decide_eq_true_eq, beq_iff_eq, hc, if_true]
  exact ⟨⟨⟨⟨⟨by omega, by omega⟩, by omega, by omega⟩, by omega, by omega⟩, by omega, by omega⟩, .inr ⟨by omega, by omega⟩⟩
section
variable {K : PySem.W.Frag} {σ : L2.St} {H : Hp} {Q : VK} {te ta tb : TE} {ts tu : TS} {nx bk ct : L2.St → Hp → Prop} {rt : VK}
/-- what stands behind ts is shown once, from Mid -/
theorem r_cut (Mid : L2.St → Hp → Prop) (h : ts (Ends.mk Mid rt bk ct) σ H) (k : ∀ σ' H', Mid σ' H' → tu (Ends.mk nx rt bk ct) σ' H') : Evl.tCut ts tu (Ends.mk nx rt bk ct) σ H := ⟨Mid, h, k⟩
theorem r_eqB {a b : Bool} (q : Q (.bl (a == b)) H) : rEq (.bl a) (.bl b) H Q := ⟨rfl, by
  have e : decide (V.bl a = V.bl b) = (a == b) := by cases a <;> cases b <;> rfl
  rw [e]
  exact q⟩
theorem r_eqBs {a : Bool} (q : Q (.bl true) H) : rEq (.bl a) (.bl a) H Q := r_eqB (by rw [beq_self_eq_true]; exact q)
theorem r_neB {a b : Bool} (q : Q (.bl (!(a == b))) H) : rNe (.bl a) (.bl b) H Q := ⟨rfl, by
  have e : decide (V.bl a = V.bl b) = (a == b) := by cases a <;> cases b <;> rfl
  rw [e]
  exact q⟩
theorem r_eqS {a b : Str} (q : Q (.bl (decide (a = b))) H) : rEq (.str a) (.str b) H Q := ⟨rfl, by
  have e : decide (V.str a = V.str b) = decide (a = b) := by
    by_cases h : a = b
    · rw [decide_eq_true h, decide_eq_true (congrArg V.str h)]
    · rw [decide_eq_false h, decide_eq_false (fun z => h (V.str.inj z))]
  rw [e]
  exact q⟩
theorem r_neS {a b : Str} (q : Q (.bl (!decide (a = b))) H) : rNe (.str a) (.str b) H Q := ⟨rfl, by
  have e : decide (V.str a = V.str b) = decide (a = b) := by
    by_cases h : a = b
    · rw [decide_eq_true h, decide_eq_true (congrArg V.str h)]
    · rw [decide_eq_false h, decide_eq_false (fun z => h (V.str.inj z))]
  rw [e]
  exact q⟩
theorem r_revL (h : te σ H fun x H1 => ∃ a xs, x = .ref a ∧ SqL K H1 a xs ∧ ∀ p, H1 p = none → Q (.ref p) (upd H1 p (.lst xs.reverse))) : tRevL K te σ H Q := h
theorem r_revv {a : Addr} {xs : List V} {R : Addr → Hp → Prop} (h : SqL K H a xs) (q : ∀ p, H p = none → R p (upd H p (.lst xs.reverse))) : ∃ b ys, V.ref a = .ref b ∧ SqL K H b ys ∧ ∀ p, H p = none → R p (upd H p (.lst ys.reverse)) := ⟨a, xs, rfl, h, q⟩
theorem r_sl {r : V → Option Int → Option Int → Hp → VK → Prop} {tl th : TO} (h : te σ H fun x H1 => tl σ H1 fun l H2 => th σ H2 fun u H3 => r x l u H3 Q) : tSl r te tl th σ H Q := h
theorem r_noP {QO : Option Int → Hp → Prop} (h : QO none H) : tNoPart σ H QO := h
theorem r_part {QO : Option Int → Hp → Prop} (h : te σ H fun x H1 => ∃ i, x = .int i ∧ QO (some i) H1) : tPart te σ H QO := h
theorem r_partv {i : Int} {R : Option Int → Hp → Prop} (h : R (some i) H) : ∃ j, V.int i = .int j ∧ R (some j) H := ⟨i, rfl, h⟩
theorem r_slL {a : Addr} {xs : List V} {lo hi : Option Int} (h : SqL K H a xs) (q : ∀ p, H p = none → Q (.ref p) (upd H p (.lst (cutV xs lo hi)))) : rSlL K (.ref a) lo hi H Q := ⟨a, xs, rfl, h, q⟩
theorem r_rep {a : Addr} {xs : List V} {k : Int} (h : H a = some (.lst xs)) (b1 : -(2 ^ 63) ≤ k) (b2 : k < 2 ^ 63) (b3 : xs.length * k.toNat ≤ sizeLine) (q : ∀ p, H p = none → Q (.ref p) (upd H p (.lst ((List.replicate k.toNat xs).flatten)))) : rRep (.ref a) (.int k) H Q := by
  refine ⟨a, k, xs, rfl, rfl, h, b1, b2, b3, ?_⟩
  exact q
end
theorem ix_of {n : Nat} {z : Int} (j : Nat) (e : z = (j : Int)) (h : j < n) : ixN n z = some j := by
  subst e
  unfold ixN
  rw [if_pos (Int.natCast_nonneg j), if_pos (by omega)]
  rfl
theorem rs_lt {i j c : Int} (hc : 0 < c) {k : Nat} (h : k < (Builtin.Range.rangeSize i j c).toNat) : i + (k : Int) * c < j := by
  unfold Builtin.Range.rangeSize at h
  rw [if_pos (by omega)] at h
  split at h
  · have h1 : (k : Int) ≤ (j - i - 1) / c := by omega
    have h2 := (Int.le_ediv_iff_mul_le hc).mp h1
    omega
  · exact absurd h (Nat.not_lt_zero k)
theorem rs_end {i j c : Int} (hc : 0 < c) : j ≤ i + ((Builtin.Range.rangeSize i j c).toNat : Int) * c := by
  unfold Builtin.Range.rangeSize
  rw [if_pos (by omega)]
  split
  · have h0 := Int.ediv_nonneg (show 0 ≤ j - i - 1 by omega) (show 0 ≤ c by omega)
    have h1 : ((((j - i - 1) / c + 1).toNat : Nat) : Int) = (j - i - 1) / c + 1 := by omega
    rw [h1, Int.add_mul, Int.one_mul]
    have h2 := Int.lt_ediv_add_one_mul_self (j - i - 1) hc
    rw [Int.add_mul, Int.one_mul] at h2
    omega
  · show j ≤ i + ((0 : Nat) : Int) * c
    omega
/-- a row of marks -/
def marks (N : Nat) (f : Nat → Bool) : List V := (List.range N).map fun m => V.bl (f m)
theorem marks_len (N : Nat) (f : Nat → Bool) : (marks N f).length = N := by
  unfold marks
  rw [List.length_map, List.length_range]
theorem marks_get {N : Nat} {f : Nat → Bool} {j : Nat} (h : j < N) : (marks N f)[j]? = some (.bl (f j)) := by
  unfold marks
  rw [List.getElem?_map, List.getElem?_range h]
  rfl
theorem marks_set {N : Nat} {f : Nat → Bool} {j : Nat} {b : Bool} : (marks N f).set j (.bl b) = marks N (fun m => if m = j then b else f m) := by
  refine List.ext_getElem? fun k => ?_
  by_cases hk : k < N
  · by_cases e : k = j
    · subst e
      rw [List.getElem?_set_self (by rw [marks_len]; exact hk), marks_get hk, if_pos rfl]
    · rw [List.getElem?_set_ne (Ne.symm e), marks_get hk, marks_get hk, if_neg e]
  · rw [List.getElem?_eq_none (by rw [List.length_set, marks_len]; omega), List.getElem?_eq_none (by rw [marks_len]; omega)]
theorem marks_rep (k : Nat) (b : Bool) : (List.replicate k [V.bl b]).flatten = marks k (fun _ => b) := by
  refine List.ext_getElem? fun j => ?_
  have e : (List.replicate k [V.bl b]).flatten = List.replicate k (V.bl b) := by
    induction k with
    | zero => rfl
    | succ k ih => rw [List.replicate_succ, List.flatten_cons, ih]; rfl
  rw [e]
  by_cases hk : j < k
  · rw [List.getElem?_replicate, if_pos hk, marks_get hk]
  · rw [List.getElem?_eq_none (by rw [List.length_replicate]; omega), List.getElem?_eq_none (by rw [marks_len]; omega)]
theorem mul_up {m n : Int} (hn : 0 < n) (h : n < m) (z : m % n = 0) : 2 * n ≤ m := by
  have e : n * (m / n) = m := Int.mul_ediv_cancel' (Int.dvd_of_emod_eq_zero z)
  have h2 : 2 ≤ m / n := by
    refine Int.not_lt.mp fun h3 => ?_
    have h4 : n * (m / n) ≤ n * 1 := Int.mul_le_mul_of_nonneg_left (by omega) (by omega)
    omega
  have h5 : n * 2 ≤ n * (m / n) := Int.mul_le_mul_of_nonneg_left h2 (by omega)
  omega
/-- a multiple below the next one but some -/
theorem mul_between {n m : Int} {k : Nat} (hn : 0 < n) (z : m % n = 0) : m < 2 * n + ((k + 1 : Nat) : Int) * n ↔ m < 2 * n + (k : Int) * n ∨ m = 2 * n + (k : Int) * n := by
  have e : n * (m / n) = m := Int.mul_ediv_cancel' (Int.dvd_of_emod_eq_zero z)
  have ek : ((k + 1 : Nat) : Int) * n = (k : Int) * n + n := by
    rw [show ((k + 1 : Nat) : Int) = (k : Int) + 1 by omega, Int.add_mul, Int.one_mul]
  rw [ek]
  refine ⟨fun h => ?_, fun h => by omega⟩
  by_cases c : m < 2 * n + (k : Int) * n
  · exact .inl c
  · refine .inr ?_
    have h1 : m / n < (k : Int) + 3 := by
      refine Int.not_le.mp fun h3 => ?_
      have h4 : n * ((k : Int) + 3) ≤ n * (m / n) := Int.mul_le_mul_of_nonneg_left h3 (by omega)
      have h5 : n * ((k : Int) + 3) = (k : Int) * n + 3 * n := by rw [Int.mul_add, Int.mul_comm n (k : Int), Int.mul_comm n 3]
      omega
    have h2 : (k : Int) + 2 ≤ m / n := by
      refine Int.not_lt.mp fun h3 => ?_
      have h4 : n * (m / n) ≤ n * ((k : Int) + 1) := Int.mul_le_mul_of_nonneg_left (by omega) (by omega)
      have h5 : n * ((k : Int) + 1) = (k : Int) * n + n := by rw [Int.mul_add, Int.mul_comm n (k : Int), Int.mul_one]
      omega
    have h6 : m / n = (k : Int) + 2 := by omega
    rw [h6, Int.mul_add, Int.mul_comm n (k : Int)] at e
    omega
theorem upto_all (n : Int) : upto (n + 1) = upto n ++ (if isP (n + 1) then [n + 1] else []) := by
  by_cases h : 0 ≤ n + 1
  · exact upto_next h
  · have e : isP (n + 1) = false := by
      cases y : isP (n + 1) with
      | false => rfl
      | true => exact absurd ((isP_iff _).mp y).1 (by omega)
    rw [upto_low (by omega), upto_low (by omega), e]
    rfl
theorem cut_last (xs : List V) (v : V) : cutV (xs ++ [v]) none (some (-1)) = xs := by
  unfold cutV
  have e : HT.sIx (xs ++ [v]).length (xs ++ [v]).length (some (-1)) = xs.length := by
    show (if (-1 : Int) < 0 then ((-1 : Int) + ((xs ++ [v]).length : Int)).toNat else min (-1 : Int).toNat (xs ++ [v]).length) = xs.length
    rw [if_pos (show (-1 : Int) < 0 by decide), List.length_append]
    show ((-1 : Int) + ((xs.length + 1 : Nat) : Int)).toNat = xs.length
    omega
  rw [e, HT.sIx_none, List.drop_zero, Nat.sub_zero, List.take_left]
section
variable {K : PySem.W.Frag} {σ : L2.St} {H : Hp} {Q : VK}
theorem r_isBl {a b : Bool} (q : Q (.bl (decide (a = b))) H) : rIsB (.bl a) (.bl b) H Q := ⟨a, b, rfl, rfl, q⟩
theorem r_notBl {a b : Bool} (q : Q (.bl (!decide (a = b))) H) : rNotB (.bl a) (.bl b) H Q := ⟨a, b, rfl, rfl, q⟩
/-- an int among ints -/
theorem inV_ints (z : Int) (ns : List Int) : inV (.int z) (ns.map V.int) = decide (z ∈ ns) := by
  unfold inV
  rw [List.any_map]
  by_cases h : z ∈ ns
  · rw [decide_eq_true h, List.any_eq_true]
    exact ⟨z, h, by show eqV (.int z) (.int z) = true; simp [eqV]⟩
  · rw [decide_eq_false h, Bool.eq_false_iff]
    intro c
    obtain ⟨y, m, e⟩ := List.any_eq_true.mp c
    have e' : eqV (.int y) (.int z) = true := e
    have : y = z := by simpa [eqV] using e'
    exact h (this ▸ m)
theorem r_inL {a : Addr} {z : Int} {ns : List Int} (h : SqL K H a (ns.map V.int)) (q : Q (.bl (decide (z ∈ ns))) H) : rIn K false (.int z) (.ref a) H Q := by
  refine ⟨a, _, rfl, .inl h, rfl, ?_, ?_⟩
  · rw [List.all_eq_true]
    intro v m
    obtain ⟨y, _, rfl⟩ := List.mem_map.mp m
    rfl
  · rw [if_neg (by decide), inV_ints]
    exact q
theorem r_niL {a : Addr} {z : Int} {ns : List Int} (h : SqL K H a (ns.map V.int)) (q : Q (.bl (!decide (z ∈ ns))) H) : rIn K true (.int z) (.ref a) H Q := by
  refine ⟨a, _, rfl, .inl h, rfl, ?_, ?_⟩
  · rw [List.all_eq_true]
    intro v m
    obtain ⟨y, _, rfl⟩ := List.mem_map.mp m
    rfl
  · rw [if_pos rfl, inV_ints]
    exact q
end
theorem dn_mk {K : PySem.W.Frag} {mg : Str → Option Value} {x : Str} {st : Stmt} {ps : List Str} {f : Addr} {oc : Value} {od an : Option Addr} {osl : Array (Option Value)} {kV doc pm cdv ct : Value} (g : mg x = some (.ref f))
    (l : K.lookup f = some ⟨oc, od, .func (PySem.W.fnOf x x (defArgs st) (defBody st) (defScope st) .none kV doc pm an cdv ct), osl⟩) (c : PySem.W.codeIn K cdv x = true) (k : PySem.W.keepIn K (.ref f) = true)
    (b : ∀ (kV doc pm : Value) (an : Option Addr) (cdv ct : Value) (us : List Value), us.length = ps.length → bindArgs (PySem.W.fnOf x x (defArgs st) (defBody st) (defScope st) .none kV doc pm an cdv ct) ⟨us, []⟩ = pure (ps.zip us)) : Dn K mg x st ps f (PySem.W.fnOf x x (defArgs st) (defBody st) (defScope st) .none kV doc pm an cdv ct) :=
  ⟨fun_mk l c k, g, (fun_mk l c k).binds b⟩
theorem tok_mk {K : PySem.W.Frag} {h : Heap} {mg : Str → Option Value} {x : Str} {n : Int} {t : Tok} (KX : K.In h) (G : h.Ns mainGlobals mg) (a : PySem.W.nsIn K mainGlobals x = some (some (.int n t))) : ∃ t, mg x = some (.int n t) := ⟨t, PySem.W.mg_of KX G a⟩
end Vb
namespace Vb
open PySem PySem.Spec PyProof.Rows L2
/-! ### methods and makings that may raise: what they let out is taken at this state -/
section
variable {X : Cx} {CX : CXT} {k : Nat} {f C : Addr} {fd : FuncData} {ps : List Str} {sp : Sp} {E : L2.St → XK} {x m : Str} {p pos apos : Pos} {e o : Expr} {es : List Expr} {ta : TE} {t : TA}
def tMethP (C : Addr) (m : Str) (sp : Sp) (E : L2.St → XK) (ta : TE) (t : TA) : TE := fun σ H Q => ta σ H fun x H1 => ∃ a dx fs, x = .ref a ∧ H1 a = some (.ins C dx fs) ∧ fs.lookup m = none ∧ t σ H1 fun vs H2 => sp (x :: vs) H2 Q (E σ)
theorem pe_methP {pl : Sem Bool} (ho : PE X o ta) (c : Cls X.K C) (hm : Meth X.K C m f) (F : FnOk X.prog X.w X.K X.mg X.base CX k f fd ps sp) (hr : Room k X.A) (hb : Binds X.K fd ps []) (hx : ∀ σ, PassesAt CX X σ (E σ)) (ha : PA X (e :: es) t) (hst : starEach (e :: es) X.env = (false, eval e X.env) :: starEach es X.env := by rfl) (hpl : (backTo pos (starEach es X.env)).any (·.1) = false := by rfl)
    (ht : eval (.Call (.Attribute o m apos) (e :: es) [] pos) X.env = (do let ov ← eval o X.env; standAt apos.atName; let (f, first) ← holding [ov] (getMethod ov m pl); callWith pos f first (backTo pos (starEach (e :: es) X.env)) (backToKw pos (keywordEach [] X.env))) := by rfl) : PE X (.Call (.Attribute o m apos) (e :: es) [] pos) (tMethP C m sp E ta t) := ⟨fun pins s σ H Q I h => PySem.W.methodCall_KW (pl := pl) (thn (ho.run pins s σ H _ I h) fun u s1 z => by
    obtain ⟨x, H1, I1, rx, a, dx, fs, ex, ea, l, q⟩ := z
    subst ex
    obtain rfl : u = Value.ref a := rx
    exact getmeth_ok I1 ea c hm l (PySem.W.callWith_K (first := [.ref a]) (h₀ := X.base) I1.ok.mod.kin hm.kp (thn (ha.run pos pins s1 σ H1 _ I1 q) fun us s2 ⟨vs, H2, I2, r, q2⟩ => ⟨I2.kIn, run_fnS (us := .ref a :: us) (vs := .ref a :: vs) F hr hb (hx σ) I2 (.cons rfl r) q2⟩) hst hpl)) ht⟩
theorem pe_methP0 {pl : Sem Bool} (ho : PE X o ta) (c : Cls X.K C) (hm : Meth X.K C m f) (F : FnOk X.prog X.w X.K X.mg X.base CX k f fd ps sp) (hr : Room k X.A) (hb : Binds X.K fd ps []) (hx : ∀ σ, PassesAt CX X σ (E σ))
    (ht : eval (.Call (.Attribute o m apos) [] [] pos) X.env = (do let ov ← eval o X.env; standAt apos.atName; let (f, first) ← holding [ov] (getMethod ov m pl); callWith pos f first (backTo pos (starEach [] X.env)) (backToKw pos (keywordEach [] X.env))) := by rfl) : PE X (.Call (.Attribute o m apos) [] [] pos) (tMethP C m sp E ta tNil) := ⟨fun pins s σ H Q I h => PySem.W.methodCall_KW (pl := pl) (thn (ho.run pins s σ H _ I h) fun u s1 z => by
    obtain ⟨x, H1, I1, rx, a, dx, fs, ex, ea, l, q⟩ := z
    subst ex
    obtain rfl : u = Value.ref a := rx
    exact getmeth_ok I1 ea c hm l (PySem.W.callWith_K0 (first := [.ref a]) I1.kIn hm.kp (run_fnS (us := [.ref a]) (vs := [.ref a]) F hr hb (hx σ) I1 (.cons rfl .nil) q))) ht⟩
def tMakeP (C : Addr) (sp : Sp) (E : L2.St → XK) (t : TA) : TE := fun σ H Q => t σ H fun vs H1 => ∀ x dx, H1 x = none → H1 dx = none → dx ≠ x → sp (.ref x :: vs) (upd (upd H1 dx (.own x)) x (.ins C dx [])) (fun v H2 => v = .non ∧ Q (.ref x) H2) (E σ)
theorem run_makeP {pins : List (Addr × Obj)} {σ : L2.St} {H : Hp} {s : Shared} {Q : VK} {us : List Value} {vs : List V} {E' : XK} (M : Mk X.K C f) (F : FnOk X.prog X.w X.K X.mg X.base CX k f fd ps sp) (hr : Room (k + 1) X.A) (hb : Binds X.K fd ps []) (hx : PassesAt CX X σ E') (I : Inv X pins σ H s) (r : Vals vs us)
    (h : ∀ x dx, H x = none → H dx = none → dx ≠ x → sp (.ref x :: vs) (upd (upd H dx (.own x)) x (.ins C dx [])) (fun v H2 => v = .non ∧ Q (.ref x) H2) E') : wpAny (model X.prog X.w) X.A (call (.ref C) us) (EP X pins σ Q) X.xe s := by
  have I2 := Inv.made (C := C) I
  have hq := h (s.heap.objs.size + 1) s.heap.objs.size (I.hok.fresh (Nat.le_succ _)) (I.hok.fresh (Nat.le_refl _)) (Nat.ne_of_lt (Nat.lt_succ_self _))
  have r2 : Vals (V.ref (s.heap.objs.size + 1) :: vs) (Value.ref (s.heap.objs.size + 1) :: us) := .cons rfl r
  have hl : (Value.ref (s.heap.objs.size + 1) :: us).length = ps.length := by
    rw [← r2.length]
    exact F.len _ _ _ _ hq
  have b := hb _ (Value.ref (s.heap.objs.size + 1) :: us) I2.kIn (by rw [List.append_nil]; exact hl)
  rw [List.append_nil] at b
  refine wpAny_call (make_map (f := f) I.kIn M.makes M.init (beq_iff_eq.mp M.fn) (codeAny_mono (F.run _ X.stack _ _ ⟨Value.ref (s.heap.objs.size + 1) :: us, []⟩ _ _ _ E' (hr.make C us []) (I2.env0.make C us []) b r2 hq) fun r s' hq' => ?_))
  cases r with
  | error e => exact hx pins _ _ e s' I2 hq'
  | ok fl =>
    cases fl with
    | ret u =>
      have z := I2.after hq'
      obtain ⟨v, H', I3, rv, ev, q3⟩ := z
      subst ev
      exact ⟨rv, V.ref (s.heap.objs.size + 1), _, I3, rfl, q3⟩
    | next => exact hq'.elim
    | brk => exact hq'.elim
    | cont => exact hq'.elim
theorem pe_makeP (M : Mk X.K C f) (F : FnOk X.prog X.w X.K X.mg X.base CX k f fd ps sp) (hr : Room (k + 1) X.A) (hg : Gl X x) (hm : X.mg x = some (.ref C)) (hb : Binds X.K fd ps []) (hx : ∀ σ, PassesAt CX X σ (E σ)) (ha : PA X (e :: es) t) (hdb : (x == ("__debug__" : Str)) = false := by decide)
    (he : starEach (e :: es) X.env = (false, eval e X.env) :: starEach es X.env := by rfl) (hpl : (backTo pos (starEach es X.env)).any (·.1) = false := by rfl) : PE X (.Call (.Name x p) (e :: es) [] pos) (tMakeP C sp E t) :=
  ⟨fun pins s σ H Q I h => wpAny_Call_Name_kw (ld_glob I hg hm (PySem.W.callWith_K (h₀ := X.base) I.ok.mod.kin M.kp (thn (ha.run pos pins s σ H _ I h) fun us s1 ⟨vs, H1, I1, r, q⟩ => ⟨I1.kIn, run_makeP M F hr hb (hx σ) I1 r q⟩) he hpl) hdb)⟩
end
/-- a method of the text -/
structure Dm (K : PySem.W.Frag) (x qual : Str) (st : Stmt) (ps : List Str) (f : Addr) (fd : FuncData) : Prop where
  F : Fun K x qual st f fd
  b : Binds K fd ps []
theorem dm_mk {K : PySem.W.Frag} {x qual : Str} {st : Stmt} {ps : List Str} {f : Addr} {oc : Value} {od an : Option Addr} {osl : Array (Option Value)} {kV doc pm cdv ct : Value}
    (l : K.lookup f = some ⟨oc, od, .func (PySem.W.fnOf x qual (defArgs st) (defBody st) (defScope st) .none kV doc pm an cdv ct), osl⟩) (c : PySem.W.codeIn K cdv qual = true) (k : PySem.W.keepIn K (.ref f) = true)
    (b : ∀ (kV doc pm : Value) (an : Option Addr) (cdv ct : Value) (us : List Value), us.length = ps.length → bindArgs (PySem.W.fnOf x qual (defArgs st) (defBody st) (defScope st) .none kV doc pm an cdv ct) ⟨us, []⟩ = pure (ps.zip us)) : Dm K x qual st ps f (PySem.W.fnOf x qual (defArgs st) (defBody st) (defScope st) .none kV doc pm an cdv ct) :=
  ⟨fun_mk l c k, (fun_mk l c k).binds b⟩
/-! readings -/
theorem r_fld {K : PySem.W.Frag} {σ : L2.St} {H : Hp} {Q : VK} {a C dx : Addr} {fs : List (Str × V)} {f : Str} {v : V} (h : H a = some (.ins C dx fs)) (c : Cls K C) (n : PySem.W.findIn K (.ref C) f = some none) (l : fs.lookup f = some v) (q : Q v H) : ∃ a' C' dx' fs' v', V.ref a = .ref a' ∧ H a' = some (.ins C' dx' fs') ∧ Cls K C' ∧ NoAttr K C' f ∧ fs'.lookup f = some v' ∧ Q v' H := ⟨a, C, dx, fs, v, rfl, h, c, n, l, q⟩
theorem r_sfld {K : PySem.W.Frag} {σ : L2.St} {H : Hp} {ta tv : TE} {f : Str} {D : L2.Ends} (h : tv σ H fun y H1 => ta σ H1 fun x H2 => ∃ a C dx fs, x = .ref a ∧ H2 a = some (.ins C dx fs) ∧ Cls K C ∧ NoAttr K C f ∧ fs.length < 1000 ∧ D.nx σ (upd H2 a (.ins C dx (putF f y fs)))) : sFld K ta tv f D σ H := h
theorem r_tfld {K : PySem.W.Frag} {σ : L2.St} {H : Hp} {Q : VK} {ta : TE} {f : Str} (h : ta σ H fun x H1 => ∃ a C dx fs v, x = .ref a ∧ H1 a = some (.ins C dx fs) ∧ Cls K C ∧ NoAttr K C f ∧ fs.lookup f = some v ∧ Q v H1) : tFld K ta f σ H Q := h
theorem r_meth {σ : L2.St} {H : Hp} {Q : VK} {C : Addr} {m : Str} {sp : Sp} {E : L2.St → XK} {ta : TE} {t : TA} (h : ta σ H fun x H1 => ∃ a dx fs, x = .ref a ∧ H1 a = some (.ins C dx fs) ∧ fs.lookup m = none ∧ t σ H1 fun vs H2 => sp (x :: vs) H2 Q (E σ)) : tMethP C m sp E ta t σ H Q := h
theorem r_make {σ : L2.St} {H : Hp} {Q : VK} {C : Addr} {sp : Sp} {E : L2.St → XK} {t : TA} (h : t σ H fun vs H1 => ∀ x dx, H1 x = none → H1 dx = none → dx ≠ x → sp (.ref x :: vs) (upd (upd H1 dx (.own x)) x (.ins C dx [])) (fun v H2 => v = .non ∧ Q (.ref x) H2) (E σ)) : tMakeP C sp E t σ H Q := h
theorem r_listRg {σ : L2.St} {H : Hp} {Q : VK} {te : L2.St → Hp → (Int → Int → Hp → Prop) → Prop} (h : te σ H fun a b H1 => RgOk a b ∧ ∀ q, H1 q = none → Q (.ref q) (upd H1 q (.lst (rgV a b)))) : tLstRg te σ H Q := h
theorem r_rg1 {σ : L2.St} {H : Hp} {ta : TE} {Q : Int → Int → Hp → Prop} (h : ta σ H fun x H1 => ∃ n, x = .int n ∧ Q 0 n H1) : tRg1 ta σ H Q := h
theorem r_rg2 {σ : L2.St} {H : Hp} {ta tb : TE} {Q : Int → Int → Hp → Prop} (h : ta σ H fun x H1 => tb σ H1 fun y H2 => ∃ i j, x = .int i ∧ y = .int j ∧ Q i j H2) : tRg2 ta tb σ H Q := h
section
variable {X : Cx} {CX : CXT} {k : Nat} {f C : Addr} {fd : FuncData} {ps ks : List Str} {sp : Sp} {E : XK} {m : Str} {pos apos : Pos} {e o : Expr} {es : List Expr} {kws : List Keyword} {ta : TE} {t tk : TA} {g : List Value → List Value → List Value} {gV : List V → List V → List V}
/-- o.m(e, .., k = v, ..) -/
def tMethK (C : Addr) (m : Str) (sp : Sp) (gV : List V → List V → List V) (E : XK) (ta : TE) (t tk : TA) : TE := fun σ H Q => ta σ H fun x H1 => ∃ a dx fs, x = .ref a ∧ H1 a = some (.ins C dx fs) ∧ fs.lookup m = none ∧ t σ H1 fun vs H2 => tk σ H2 fun zs H3 => sp (gV (x :: vs) zs) H3 Q E
theorem pe_methK {pl : Sem Bool} (ho : PE X o ta) (c : Cls X.K C) (hm : Meth X.K C m f) (F : FnOk X.prog X.w X.K X.mg X.base CX k f fd ps sp) (hr : Room k X.A) (hb : KBinds X.K fd ps ks g gV) (hx : Passes CX X E) (ha : PA X (e :: es) t) (hkw : PK X kws tk)
    (hall : (backToKw pos (keywordEach kws X.env)).all (·.1.isSome) = true := by rfl) (hks : (backToKw pos (keywordEach kws X.env)).filterMap (·.1) = ks := by rfl) (hst : starEach (e :: es) X.env = (false, eval e X.env) :: starEach es X.env := by rfl) (hpl : ((backTo pos (starEach (e :: es) X.env)).any (·.1) || (backToKw pos (keywordEach kws X.env)).any (·.1.isNone)) = false := by rfl)
    (ht : eval (.Call (.Attribute o m apos) (e :: es) kws pos) X.env = (do let ov ← eval o X.env; standAt apos.atName; let (f, first) ← holding [ov] (getMethod ov m pl); callWith pos f first (backTo pos (starEach (e :: es) X.env)) (backToKw pos (keywordEach kws X.env))) := by rfl) : PE X (.Call (.Attribute o m apos) (e :: es) kws pos) (tMethK C m sp gV E ta t tk) := ⟨fun pins s σ H Q I h => PySem.W.methodCall_KW (pl := pl) (thn (ho.run pins s σ H _ I h) fun u s1 z => by
    obtain ⟨x, H1, I1, rx, a, dx, fs, ex, ea, l, q⟩ := z
    subst ex
    obtain rfl : u = Value.ref a := rx
    refine getmeth_ok I1 ea c hm l (PySem.W.callWith_KW (first := [.ref a]) (h₀ := X.base) I1.ok.mod.kin hm.kp hall (thn (ha.run pos pins s1 σ H1 _ I1 q) fun us s2 ⟨vs, H2, I2, r, q2⟩ => ?_) hpl hst)
    refine thn (hkw.run pos pins s2 σ H2 _ I2 q2) fun ws s3 ⟨zs, H3, I3, rz, q3⟩ => ⟨I3.kIn, ?_⟩
    rw [hks]
    exact run_fnk (us := .ref a :: us) (vs := .ref a :: vs) F hr hb hx I3 (.cons rfl r) rz q3) ht⟩
theorem r_methK {σ : L2.St} {H : Hp} {Q : VK} (h : ta σ H fun x H1 => ∃ a dx fs, x = .ref a ∧ H1 a = some (.ins C dx fs) ∧ fs.lookup m = none ∧ t σ H1 fun vs H2 => tk σ H2 fun zs H3 => sp (gV (x :: vs) zs) H3 Q E) : tMethK C m sp gV E ta t tk σ H Q := h
end
/-- two by place, one by its name -/
def g21 {α : Type} : List α → List α → List α
  | [a, b], [c] => [a, b, c]
  | _, _ => []
theorem kb21 {K : PySem.W.Frag} {x qual kn : Str} {st : Stmt} {f : Addr} {fd : FuncData} {ps : List Str} (F : Fun K x qual st f fd) (hp : ps.length = 3)
    (h : ∀ (kV doc pm : Value) (an : Option Addr) (cdv ct a b c : Value), bindArgs (PySem.W.fnOf x qual (defArgs st) (defBody st) (defScope st) .none kV doc pm an cdv ct) ⟨[a, b], [(kn, c)]⟩ = pure (ps.zip [a, b, c])) : KBinds K fd ps [kn] g21 g21 := by
  obtain ⟨oc, od, kV, doc, pm, an, cdv, ct, osl, rfl, lk, hcd⟩ := F.ex
  refine ⟨fun s us ws _ hl => ?_, fun {vs us zs ws} r z => ?_⟩
  · rcases us with _ | ⟨a, _ | ⟨b, _ | ⟨d, us⟩⟩⟩ <;> rcases ws with _ | ⟨c, _ | ⟨e, ws⟩⟩ <;> first | exact .of_eq (h kV doc pm an cdv ct a b c) | (rw [hp] at hl; cases hl)
  · rcases r with _ | ⟨r1, _ | ⟨r2, _ | ⟨r3, r⟩⟩⟩ <;> rcases z with _ | ⟨z1, _ | ⟨z2, z⟩⟩ <;> first | exact .cons r1 (.cons r2 (.cons z1 .nil)) | exact .nil
end Vb
namespace Vb
open PySem PySem.Spec PyProof.Rows L2
/-! ### a try with several clauses, each of which keeps a name -/
/-- what the clauses wish of an error, in their order -/
def wAll (K : PySem.W.Frag) (Wo : WX) (D : L2.Ends) : List (Value × Nat × (Addr → Value → Option Addr → TS)) → WX
  | [] => Wo
  | (c, i, ts) :: r => wAs K c i ts (wAll K Wo D r) D
inductive Clauses (X : Cx) : List ExceptHandler → List (Value × Nat × (Addr → Value → Option Addr → TS)) → Prop
  | nil : Clauses X [] []
  | cons {x n : Str} {c : Value} {i : Nat} {ts : Addr → Value → Option Addr → TS} {b0 : Stmt} {su : List Stmt} {np po : Pos} {hs : List ExceptHandler} {l : List (Value × Nat × (Addr → Value → Option Addr → TS))} (hi : X.N[i]? = some n) (hl : X.env.kindOf n = some .local) (hc : Names X x c)
      (hsu : ∀ (a : Addr) (oe : Obj) (cls : Value) (d : Option Addr) (pn : List (Addr × Obj)), L2N.Zn cls d oe → (∃ vs, oe.data = .fields vs) → PSs (X.suite a ((a, oe) :: pn)) (b0 :: su) (ts a cls d)) (r : Clauses X hs l) : Clauses X (.ExceptHandler (some (.Name x np)) (some n) (b0 :: su) po :: hs) ((c, i, ts) :: l)
section
variable {X : Cx} {body : List Stmt} {c0 : ExceptHandler} {cs : List ExceptHandler} {l : List (Value × Nat × (Addr → Value → Option Addr → TS))} {pos : Pos} {tb : WX → TS} {Wo : WX}
theorem ps_try_all (st : X.stack = X.env :: X.outer) (fr : X.env.frame = some X.env.locals) (nd : X.N.Nodup) (tk : L2N.Takes X Wo)
    (hb : ∀ (W : WX) (pn : List (Addr × Obj)) (xe : Value → Shared → Prop), L2N.Takes (X.tr pn xe) W → PassesOwn (model X.prog X.w) X.A X.env xe → PSs (X.tr pn xe) body (tb W))
    (hh : Clauses X (c0 :: cs) l) : PS X (.Try body (c0 :: cs) [] [] pos) (fun D σ H => tb (wAll X.K Wo D l) D σ H) := by
  refine ⟨fun pins s σ H D I h => ?_⟩
  have iok := I.ok
  have afr : X.A.frames = some (X.env :: X.outer) := by rw [iok.frames, st]
  refine wpAny_Try_except (wpAny_mono ((hb (wAll X.K Wo D l) (X.pn ++ pins) (fun e z1 => wpAny (model X.prog X.w) X.A (noteFrame e X.env) (fun _ z2 => wpAny (model X.prog X.w) X.A (setFlight e none) (fun _ z3 =>
    wpAny (model X.prog X.w) X.A (handleBy e X.env (c0 :: cs)) (SP X pins D) X.xe z3) X.xe z2) X.xe z1) (fun u s' z => ?caught) PassesOwn.looking).run [] s σ H D (I.toTry _) h) (fun f s1 z => ?thru) (fun _ _ z => z))
  case thru =>
    cases f with
    | ret u =>
      obtain ⟨v, σ1, H1, J1, r1, q1⟩ := z
      exact ⟨v, σ1, H1, J1.ofTry iok, r1, q1⟩
    | next =>
      obtain ⟨σ1, H1, J1, q1⟩ := z
      exact wpAny_execs_nil ⟨σ1, H1, J1.ofTry iok, q1⟩
    | brk =>
      obtain ⟨σ1, H1, J1, q1⟩ := z
      exact ⟨σ1, H1, J1.ofTry iok, q1⟩
    | cont =>
      obtain ⟨σ1, H1, J1, q1⟩ := z
      exact ⟨σ1, H1, J1.ofTry iok, q1⟩
  case caught =>
    obtain ⟨a, B, sI, pins1, σ1, H1, cls, d, rfl, J0, nb, up, sky0, na, os, ag, w⟩ := z
    have J : Inv X pins σ1 H1 sI := J0.ofTry iok
    have sky1 : Sky B (X.env :: X.outer) a (L2N.Zn cls d) X.env.locals s'.heap := by rw [← st]; exact sky0
    refine L2N.Sky.land L2N.Zn.steady afr fr sky1 fun h3 fl3 up3 => ?_
    have J3 : Inv X pins σ1 H1 { s' with heap := h3 } := J.landed nb fl3.1 (up.trans up3) os ag
    obtain ⟨oe3, vs3, he3, hz3, hd3⟩ := fl3.there
    have nfr : a ∉ frs (X.env :: X.outer) := fun hm => by
      obtain ⟨_, o', e', hnf⟩ := fl3.2.2.1.mem hm
      rw [he3] at e'
      cases e'
      exact hnf _ hd3
    have nL : a ≠ X.env.locals := fun z => nfr (List.mem_filterMap.mpr ⟨X.env, List.mem_cons_self, by rw [fr, z]⟩)
    have nF : a ∉ X.fs := fun hm => by
      obtain ⟨e, he, q⟩ := List.mem_filterMap.mp hm
      exact nfr (List.mem_filterMap.mpr ⟨e, List.mem_cons_of_mem _ he, q⟩)
    have S3 := J3.suite he3 hd3 na nL nF
    have go : ∀ {cs1 : List ExceptHandler} {l1 : List (Value × Nat × (Addr → Value → Option Addr → TS))}, Clauses X cs1 l1 → wAll X.K Wo D l1 cls d σ1 H1 → wpAny (model X.prog X.w) X.A (handleBy (.ref a) X.env cs1) (SP X pins D) X.xe { s' with heap := h3 } := by
      intro cs1 l1 hk
      induction hk with
      | nil =>
        intro w1
        refine wpAny_handleBy_nil ?_
        obtain ⟨k1, k2, k3, oe, vs, T, oT, ts1, he, hz, hd, h1, hr⟩ := id fl3
        unfold PySem.passOn
        refine wpAny_bind (wpAny_field he hd h1 ?_)
        rw [if_neg (show ¬ ((Value.ref T == Value.none) = true) by simp)]
        have last : wpAny (model X.prog X.w) X.A (setFlight (.ref a) X.env.frame) (fun _ z4 => wpAny (model X.prog X.w) X.A (throw (.ref a) : Sem Flow) (SP X pins D) X.xe z4) X.xe { s' with heap := h3 } := by
          rw [fr]
          exact HandSPX.setFlight_upZ fl3 fun h4 hh4 up4 => wpAny_throw (tk _ _ ⟨a, B, sI, pins, σ1, H1, cls, d, rfl, J, nb, (up.trans up3).trans up4, .inr (.inr (by rw [st]; exact hh4)), na, os, ag, w1⟩)
        first
          | exact wpAny_bind (wpAny_pure (wpAny_bind last))
          | exact wpAny_bind last
      | @cons x n c i ts b0 su np po hs2 l2 hi hln hc hsu r ih =>
        intro w1
        obtain ⟨b, hb1, hyes, hno⟩ := w1
        refine wpAny_handleBy_cons (codeAny_handlers_test ?_) (fun q => by cases q)
        have LT : PySem.W.Looks (model X.prog X.w) h3 (typeOf (.ref a)) cls := fun _ _ _ _ k q => wpAny_typeOf_ref (k _ _ he3) (by rw [hz3.1]; exact q)
        have LM := PySem.W.exm_one (M := model X.prog X.w) J3.kIn LT hb1
        have look : ∀ {Q E : Value → Shared → Prop}, Q c { s' with heap := h3 } → wpAny (model X.prog X.w) (X.A.mark (some (.ref a))) (eval (.Name x np) X.env) Q E { s' with heap := h3 } := fun {Q E} q => by
          rcases hc with ⟨hg, hdb, hm | ⟨hm, hv, hnn⟩⟩
          · exact ld_glob (X := X.suite a ((a, oe3) :: (X.pn ++ pins))) S3 hg hm q hdb
          · exact ld_blt (X := X.suite a ((a, oe3) :: (X.pn ++ pins))) S3 hg hm hv q hnn hdb
        refine look (LM.here ?_)
        cases b with
        | false => exact ih (hno rfl)
        | true =>
          refine codeAny_handlers_suite_as (HandSPX.lands_againZ fl3 fun h4 fl4 up4 => ?_)
          have J4 : Inv X pins σ1 H1 { s' with heap := h4 } := J.landed nb fl4.1 ((up.trans up3).trans up4) os ag
          obtain ⟨oe4, vs4, he4, hz4, hd4⟩ := fl4.there
          have S4 := J4.suite he4 hd4 na nL nF
          refine store_ok (X := X.suite a ((a, oe4) :: (X.pn ++ pins))) (v := .ref a) S4 nd hi (.inl hln) rfl (fun s5 S5 => ?_) (.inr hln)
          refine wpAny_mono ((hsu a oe4 cls d (X.pn ++ pins) hz4 ⟨_, hd4⟩).run [] s5 _ H1 _ S5 (hyes rfl a na)) (fun f s6 hsp => ?_) (fun _ _ z => z.elim)
          have over : ∀ {σ6 : L2.St} {H6 : Hp} {Q : Shared → Prop}, Inv (X.suite a ((a, oe4) :: (X.pn ++ pins))) [] σ6 H6 s6 → (∀ s7, Inv X pins (σ6.set i none) H6 s7 → Q s7) →
              wpAny (model X.prog X.w) X.A (do bindName X.env n .none; unbindBehindTheSuite X.env n po) (fun _ s7 => Q s7) X.xe s6 := fun S6 hq => gone_ok (S6.unsuite iok) nd hi hln hq
          cases f with
          | ret u =>
            obtain ⟨v6, σ6, H6, S6, r6, q6⟩ := hsp
            exact over S6 fun _ J7 => ⟨_, _, _, J7, r6, q6⟩
          | next =>
            obtain ⟨σ6, H6, S6, q6⟩ := hsp
            exact over S6 fun _ J7 => ⟨_, _, J7, q6⟩
          | brk =>
            obtain ⟨σ6, H6, S6, q6⟩ := hsp
            exact over S6 fun _ J7 => ⟨_, _, J7, q6⟩
          | cont =>
            obtain ⟨σ6, H6, S6, q6⟩ := hsp
            exact over S6 fun _ J7 => ⟨_, _, J7, q6⟩
    exact go hh w
end
/-- a clause that is not meant -/
theorem r_pass {K : PySem.W.Frag} {c : Value} {i : Nat} {ts : Addr → Value → Option Addr → TS} {Wo : WX} {D : L2.Ends} {cls : Value} {d : Option Addr} {σ : L2.St} {H : Hp} (e : PySem.W.exmOne K cls c = some false) (h : Wo cls d σ H) : wAs K c i ts Wo D cls d σ H := ⟨false, e, fun z => Bool.noConfusion z, fun _ => h⟩
theorem Xk.no {K : PySem.W.Frag} {C D : Addr} (k : Xk K C) (s : PySem.W.subIn K (.ref D) (.ref C) = some false) : PySem.W.exmOne K (.ref D) (.ref C) = some false := PySem.W.exm_ref k.sb k.hd k.ty s
/-! ### x in o, o == x by the text's own defs -/
section
variable {X : Cx} {CX : CXT} {k : Nat} {f C : Addr} {fd : FuncData} {ps : List Str} {sp : Sp} {E : XK}
/-- what x in o asks -/
def rInOwn (neg : Bool) (C : Addr) (sp : Sp) (E : XK) : R2 := fun x y H Q => ∃ a dx fs, y = .ref a ∧ H a = some (.ins C dx fs) ∧ sp [y, x] H (fun v H' => ∃ b, v = .bl b ∧ Q (.bl (if neg then !b else b)) H') E
theorem cont_own {pins : List (Addr × Obj)} {s : Shared} {σ : L2.St} {H : Hp} {x : V} {v : Value} {a dx : Addr} {fs : List (Str × V)} {Q : Bool → Shared → Prop} (hs : PySem.W.findIn X.K (.ref C) "__contains__" = some (some (.ref f))) (hf : PySem.W.isFn X.K (.ref f) = true)
    (F : FnOk X.prog X.w X.K X.mg X.base CX k f fd ps sp) (hr : Room k X.A) (hb : Binds X.K fd ps []) (hx : PassesAt CX X σ E) (I : Inv X pins σ H s) (rx : RelV x v) (ha : H a = some (.ins C dx fs)) {Qv : VK} (q : sp [.ref a, x] H Qv E)
    (hq : ∀ u s', EP X pins σ Qv u s' → ∃ b, u = Value.bool b ∧ Q b s') : wpAny (model X.prog X.w) X.A (contains (.ref a) v) Q X.xe s := by
  obtain ⟨mA, J, _⟩ := ins_get I.hok ha
  obtain ⟨od, J, _⟩ := J.look
  have kx := I.kIn
  have spec : PySem.W.Looks (model X.prog X.w) s.heap (specialOf (.ref a) "__contains__") (some (.ref f)) := fun A Q E s' k' q' => by
    unfold specialOf
    exact wpAny_bind (J.type A _ _ _ k' ((PySem.W.looks_findIn kx hs) A _ _ _ k' q'))
  unfold contains
  refine wpAny_holding ?_
  rw [PySem.stdlibNamesSay?_ref]
  refine wpAny_bind (spec.here ?_)
  show wpAny _ X.A (if (some (Value.ref f) == some Value.none) = true then _ else _) Q X.xe s
  rw [if_neg (by simp)]
  refine wpAny_bind ?_
  unfold callSpecialUnlessNone?
  refine wpAny_bind (spec.here (wpAny_holding (wpAny_bind ((PySem.W.bind_fn kx _ (beq_iff_eq.mp hf)).here ?_))))
  show wpAny _ X.A (if (Value.ref f == Value.none) = true then _ else _) _ X.xe s
  rw [if_neg (by simp)]
  refine wpAny_bind (wpAny_mono (run_fnS (E := fun _ => E) (us := [.ref a, v]) (vs := [.ref a, x]) F hr hb hx I (.cons rfl (.cons rx .nil)) q) (fun u s' z => ?_) fun _ _ z => z)
  obtain ⟨b, rfl, q'⟩ := hq u s' z
  exact wpAny_pure (wpAny_truthy_bool q')
theorem op_inOwn (hs : PySem.W.findIn X.K (.ref C) "__contains__" = some (some (.ref f))) (hf : PySem.W.isFn X.K (.ref f) = true) (F : FnOk X.prog X.w X.K X.mg X.base CX k f fd ps sp) (hr : Room k X.A) (hb : Binds X.K fd ps []) (hx : ∀ σ, PassesAt CX X σ E) : OpR X (compareOp .In) (rInOwn false C sp E) := by
  intro pins s σ H x y v u Q I rx ry h
  obtain ⟨a, dx, fs, rfl, ha, q⟩ := h
  obtain rfl : u = Value.ref a := ry
  show wpAny (model X.prog X.w) X.A (do let b ← contains (.ref a) v; pure (Value.bool b)) (EP X pins σ Q) X.xe s
  refine wpAny_bind (cont_own hs hf F hr hb (hx σ) I rx ha q fun u s' z => ?_)
  obtain ⟨w, H', I', rw', b, rfl, q'⟩ := z
  exact ⟨b, rw', wpAny_pure ⟨.bl b, H', I', rfl, q'⟩⟩
theorem op_notInOwn (hs : PySem.W.findIn X.K (.ref C) "__contains__" = some (some (.ref f))) (hf : PySem.W.isFn X.K (.ref f) = true) (F : FnOk X.prog X.w X.K X.mg X.base CX k f fd ps sp) (hr : Room k X.A) (hb : Binds X.K fd ps []) (hx : ∀ σ, PassesAt CX X σ E) : OpR X (compareOp .NotIn) (rInOwn true C sp E) := by
  intro pins s σ H x y v u Q I rx ry h
  obtain ⟨a, dx, fs, rfl, ha, q⟩ := h
  obtain rfl : u = Value.ref a := ry
  show wpAny (model X.prog X.w) X.A (do let b ← contains (.ref a) v; pure (Value.bool (!b))) (EP X pins σ Q) X.xe s
  refine wpAny_bind (cont_own hs hf F hr hb (hx σ) I rx ha q fun u s' z => ?_)
  obtain ⟨w, H', I', rw', b, rfl, q'⟩ := z
  exact ⟨b, rw', wpAny_pure ⟨.bl (!b), H', I', rfl, q'⟩⟩
/-- what o == x asks -/
def rEqOwn (K : PySem.W.Frag) (C : Addr) (sp : Sp) (E : XK) : R2 := fun x y H Q => ∃ a dx fs tb, x = .ref a ∧ H a = some (.ins C dx fs) ∧ TyX K H y tb ∧ PySem.W.notFirst K C tb = true ∧ sp [x, y] H (fun v H' => ∃ b, v = .bl b ∧ Q (.bl b) H') E
theorem op_eqOwn (hs : PySem.W.findIn X.K (.ref C) "__eq__" = some (some (.ref f))) (hf : PySem.W.isFn X.K (.ref f) = true) (F : FnOk X.prog X.w X.K X.mg X.base CX k f fd ps sp) (hr : Room k X.A) (hb : Binds X.K fd ps []) (hx : ∀ σ, PassesAt CX X σ E) : OpR X (compareOp .Eq) (rEqOwn X.K C sp E) := by
  intro pins s σ H x y v u Q I rx ry h
  obtain ⟨a, dx, fs, tb, rfl, ha, ty, nf, q⟩ := h
  obtain rfl : v = Value.ref a := rx
  obtain ⟨P, Z, p, _⟩ := kit_of I ry ty
  obtain ⟨mA, J, _⟩ := ins_get I.hok ha
  obtain ⟨od, J, _⟩ := J.look
  obtain ⟨m, hF⟩ := I.fr
  show wpAny (model X.prog X.w) X.A (richCompare .Eq (.ref a) u) (EP X pins σ Q) X.xe s
  refine PySem.W.cmp_K (op := .Eq) (tb := tb) hr.units0 hF I.ok.mod.kin J (Z.ty _ _ I.kIn p) nf hs hf ?_
  refine wpAny_mono (run_fnS (E := fun _ => E) (us := [.ref a, u]) (vs := [.ref a, y]) F hr hb (hx σ) I (.cons rfl (.cons ry .nil)) q) (fun w s' z => ?_) fun _ _ z => z
  obtain ⟨w', H', I', rw', b, rfl, q'⟩ := z
  cases (show w = Value.bool b from rw')
  exact ⟨.bl b, H', I', rfl, q'⟩
end
theorem pass5A {X : Cx} : ∀ σ, PassesAt (L2N.CX X.prog X.w) X σ E0 := fun σ pins H s e s' I c => pass5 pins σ H s e s' I c
/-- an own class: what isinstance asks of its objects and of itself -/
structure Ki (K : PySem.W.Frag) (C : Addr) : Prop where
  ha : PySem.W.findIn K (.ref C) "__class__" = some (some (.builtin "object.__class__"))
  hn : PySem.W.specialIn K (.builtin "object.__class__") "__get__" = some (some (.builtin "getset_descriptor.__get__"))
  htk : PySem.W.takesIn K (.builtin "object.__class__") = some true
  hm : PySem.W.mroIn K C (.type "object") = some true
  ic : PySem.W.isClsIn K C = true
  ty : PySem.W.typeIn K (.ref C) = some (.type "type")
theorem Ki.tyx {K : PySem.W.Frag} {C a dx : Addr} {H : Hp} {fs : List (Str × V)} (k : Ki K C) (c : Cls K C) (h : H a = some (.ins C dx fs)) : TyX K H (.ref a) (.ref C) := .base (.ins h c k.ha k.hn k.htk k.hm)
theorem Ki.me {K : PySem.W.Frag} {C : Addr} (k : Ki K C) : PySem.W.kitOne K (.ref C) (.ref C) = some true := by
  unfold PySem.W.kitOne
  rw [if_pos (by simp)]
theorem Ki.of {K : PySem.W.Frag} {C : Addr} {T : String} (k : Ki K C) (s : PySem.W.subIn K (.type T) (.ref C) = some false) : PySem.W.kitOne K (.type T) (.ref C) = some false := by
  have h1' : (PySem.W.clsIn K C).isSome = true := k.ic
  unfold PySem.W.kitOne
  rw [if_neg (by intro h; cases beq_iff_eq.mp h)]
  show (if ((PySem.W.clsIn K C).isSome && PySem.W.typeIn K (.ref C) == some (.type "type")) = true then PySem.W.subIn K (.type T) (.ref C) else none) = _
  rw [h1', k.ty, if_pos (by decide)]
  exact s
theorem nf_me {K : PySem.W.Frag} {C : Addr} : PySem.W.notFirst K C (.ref C) = true := by simp [PySem.W.notFirst]
theorem nf_ty {K : PySem.W.Frag} {C : Addr} {T : String} (s : PySem.W.subIn K (.type T) (.ref C) = some false) : PySem.W.notFirst K C (.type T) = true := by simp [PySem.W.notFirst, s]
/-! ### further readings -/
theorem r_atM {H : Hp} {a C dx : Addr} {fs : List (Str × V)} {m : Str} {R : Prop} (h : H a = some (.ins C dx fs)) (l : fs.lookup m = none) (q : R) : ∃ a' dx' fs', V.ref a = .ref a' ∧ H a' = some (.ins C dx' fs') ∧ fs'.lookup m = none ∧ R := ⟨a, dx, fs, rfl, h, l, q⟩
theorem h_same {H H' : Hp} {a : Addr} {o : HO} (e : Same H H') (h : H a = some o) : H' a = some o := e a o h
theorem h_fr {H H' : Hp} {st a : Addr} {o : HO} (e : Fr st H H') (n : a ≠ st) (h : H a = some o) : H' a = some o := e.k a o n h
theorem r_newO {xs : List V} {H : Hp} {R : Addr → Prop} (hs : xs.length ≤ sizeLine) (h : ∀ p, H p = none → R p) : xs.length ≤ sizeLine ∧ ∀ p, H p = none → R p := ⟨hs, h⟩
theorem fr_new {H H' : Hp} {st p : Addr} {o : HO} (f : Fr st H H') (n : H' p = none) : Fr st H (upd H' p o) := f.trans (Fr.of (same_new n))
theorem fr_same {H H' H2 : Hp} {st : Addr} (f : Fr st H H') (e : Same H' H2) : Fr st H H2 := f.trans (Fr.of e)
theorem sm_new {H H' : Hp} {p : Addr} {o : HO} (f : Same H H') (n : H' p = none) : Same H (upd H' p o) := f.trans (same_new n)
theorem st_new {H : Hp} {st p : Addr} {o : HO} (s : StoreAt H st) (n : H p = none) : StoreAt (upd H p o) st := s.same (same_new n)
theorem r_fldV {K : PySem.W.Frag} {H : Hp} {a C dx : Addr} {fs : List (Str × V)} {f : Str} {v : V} {R : V → Prop} (h : H a = some (.ins C dx fs)) (c : Cls K C) (n : NoAttr K C f) (l : fs.lookup f = some v) (q : R v) : ∃ a' C' dx' fs' v', V.ref a = .ref a' ∧ H a' = some (.ins C' dx' fs') ∧ Cls K C' ∧ NoAttr K C' f ∧ fs'.lookup f = some v' ∧ R v' := ⟨a, C, dx, fs, v, rfl, h, c, n, l, q⟩
end Vb
namespace Vb
open PySem PySem.Spec PyProof.Rows L2
/-! ### texts: their rules under own names, their readings -/
abbrev sg (x : Str) : List Nat := TL.tl x
theorem sg_len (x : Str) : x.length = (sg x).length := TL.len_tl x
theorem sg_ext {x y : Str} (h : sg x = sg y) : x = y := TL.ext_tl h
theorem sg_app (x y : Str) : sg (x ++ y) = sg x ++ sg y := TL.tl_append x y
theorem sg_lit (s : String) : sg (Str.ofString s) = s.toList.map Char.toNat := TL.tl_ofString s
theorem sg_one (c : Nat) : sg ⟨#[c]⟩ = [c] := rfl
theorem len_app (x y : Str) : (x ++ y).length = x.length + y.length := by rw [sg_len, sg_len, sg_len, sg_app, List.length_append]
theorem len_lit (s : String) : (Str.ofString s).length = s.toList.length := by rw [sg_len, sg_lit, List.length_map]
theorem len_one (c : Nat) : (Str.mk #[c]).length = 1 := rfl
section
variable {X : Cx} {K : PySem.W.Frag} {H : Hp} {Q : VK} {σ : L2.St}
def rAddS : R2 := fun x y H Q => ∃ i j, x = .str i ∧ y = .str j ∧ i.length + j.length ≤ sizeLine ∧ Q (.str (i ++ j)) H
theorem op_addS : OpR X (binaryOp .Add) rAddS := L2.op_add_str
theorem r_addS {i j : Str} (h : i.length + j.length ≤ sizeLine) (q : Q (.str (i ++ j)) H) : rAddS (.str i) (.str j) H Q := ⟨i, j, rfl, rfl, h, q⟩
def rMulS : R2 := fun x y H Q => ∃ (z : Str) (k : Int), x = .str z ∧ y = .int k ∧ (k < 1000000 ∧ -1000000 < k ∧ z.length * k.toNat ≤ 16777216) ∧ Q (.str (Txt.mul z k)) H
theorem mul_ok {z : Str} {k : Int} (h : k < 1000000 ∧ -1000000 < k ∧ z.length * k.toNat ≤ 16777216) : PySem.MulOk z k := by
  obtain ⟨h1, h2, h3⟩ := h
  refine ⟨by rw [decide_eq_false (by omega), decide_eq_false (by omega)]; rfl, fun n1 _ => ?_, fun n1 _ => ?_⟩
  · intro hh
    have hk : 0 < k := by omega
    have hm : (z.length : Int) * k ≤ 16777216 := by
      have : ((z.length * k.toNat : Nat) : Int) ≤ 16777216 := by omega
      rw [Int.natCast_mul, Int.toNat_of_nonneg (by omega)] at this
      exact this
    have h4 : (z.length : Int) ≤ (2 ^ 63 - 1) / k := by
      rw [Int.le_ediv_iff_mul_le hk]
      omega
    omega
  · show decide (z.length * k.toNat > PySem.sizeLine) = false
    rw [decide_eq_false]
    show ¬ z.length * k.toNat > 2 ^ 24
    omega
theorem op_mulS : OpR X (binaryOp .Mult) rMulS := by
  intro pins s σ H x y v u Q I rx ry h
  obtain ⟨z, k, rfl, rfl, hk, q⟩ := h
  obtain ⟨t, rfl⟩ := rx
  obtain ⟨t', rfl⟩ := ry
  exact PySem.SB.mul (mul_ok hk) fun t2 tk => ⟨.str (Txt.mul z k), H, I.tok _, ⟨_, rfl⟩, q⟩
theorem r_mulS {z : Str} {k : Int} (h : k < 1000000 ∧ -1000000 < k ∧ z.length * k.toNat ≤ 16777216) (q : Q (.str (Txt.mul z k)) H) : rMulS (.str z) (.int k) H Q := ⟨z, k, rfl, rfl, h, q⟩
theorem mul_len (z : Str) (k : Int) : (Txt.mul z k).length ≤ z.length * k.toNat := by
  unfold Txt.mul
  split
  · exact Nat.zero_le _
  · split
    · rename_i h1 h2
      have : 1 ≤ k.toNat := by omega
      exact Nat.le_mul_of_pos_right _ this
    · show ((List.replicate k.toNat z.cps).foldl (· ++ ·) #[]).size ≤ _
      rw [PySem.size_reps]
      show 0 + k.toNat * z.length ≤ _
      rw [Nat.zero_add, Nat.mul_comm]
      exact Nat.le_refl _
def rInSg (neg : Bool) : R2 := fun x y H Q => ∃ (c : Nat) (z : Str), x = .str ⟨#[c]⟩ ∧ y = .str z ∧ Q (.bl (if neg then !decide (c ∈ sg z) else decide (c ∈ sg z))) H
theorem op_inSg : OpR X (compareOp .In) (rInSg false) := L2.op_in_sign
theorem op_niSg : OpR X (compareOp .NotIn) (rInSg true) := L2.op_notIn_sign
theorem r_inSg {c : Nat} {z : Str} (q : Q (.bl (decide (c ∈ sg z))) H) : rInSg false (.str ⟨#[c]⟩) (.str z) H Q := ⟨c, z, rfl, rfl, q⟩
theorem r_niSg {c : Nat} {z : Str} (q : Q (.bl (!decide (c ∈ sg z))) H) : rInSg true (.str ⟨#[c]⟩) (.str z) H Q := ⟨c, z, rfl, rfl, q⟩
theorem r_inSgV {c : Nat} {x z : Str} (e : sg x = [c]) (q : Q (.bl (decide (c ∈ sg z))) H) : rInSg false (.str x) (.str z) H Q := by
  obtain rfl : x = ⟨#[c]⟩ := sg_ext e
  exact ⟨c, z, rfl, rfl, q⟩
theorem r_ixS {z : Str} {i : Int} {c : Nat} (h : z.length ≤ sizeLine) (e : atI (sg z) i = some c) (q : Q (.str ⟨#[c]⟩) H) : rIxS (.str z) (.int i) H Q := ⟨z, i, c, rfl, rfl, h, e, q⟩
theorem r_cutS {z : Str} {lo hi : Option Int} (h : z.length ≤ sizeLine) (q : Q (.str (cutS z lo hi)) H) : rSlS (.str z) lo hi H Q := ⟨z, rfl, h, q⟩
theorem cut_len (z : Str) (lo hi : Option Int) : (cutS z lo hi).length ≤ z.length := cutS_length z lo hi
def rLenStr : List V → Hp → VK → Prop := fun xs H Q => ∃ z, xs = [.str z] ∧ z.length ≤ sizeLine ∧ Q (.int z.length) H
theorem call_lenS : CallR X (.builtin "len") rLenStr := L2.call_len_str
theorem r_lenS {z : Str} (h : z.length ≤ sizeLine) (q : Q (.int z.length) H) : rLenStr [.str z] H Q := ⟨z, rfl, h, q⟩
theorem call_all (hc : X.calm = true) : CallR X (.builtin "all") (rAll X.K) := L2.cr_all hc
theorem r_all {a : Addr} {bs : List Bool} (h : SqL K H a (bs.map V.bl)) (q : Q (.bl (bs.all id)) H) : rAll K [.ref a] H Q := ⟨a, bs, rfl, h, q⟩
theorem r_cat {l b : Addr} {xs zs : List V} (h1 : H l = some (.lst xs)) (h2 : H b = some (.lst zs)) (h3 : xs.length + zs.length ≤ sizeLine) (q : ∀ p, H p = none → Q (.ref p) (upd H p (.lst (xs ++ zs)))) : rCat (.ref l) (.ref b) H Q := ⟨l, b, xs, zs, rfl, rfl, h1, h2, h3, q⟩
theorem r_repL {l : Addr} {k : Int} {xs : List V} (h1 : H l = some (.lst xs)) (h2 : -1000000 < k ∧ k < 1000000) (h3 : xs.length * k.toNat ≤ sizeLine) (q : ∀ p, H p = none → Q (.ref p) (upd H p (.lst (List.replicate k.toNat xs).flatten))) : rRep (.ref l) (.int k) H Q := ⟨l, k, xs, rfl, rfl, h1, by omega, by omega, h3, q⟩
-- sep.join(xs), s.split(sep), s.upper()
def rJoin (K : PySem.W.Frag) : V → List V → Hp → VK → Prop := fun x xs H Q => ∃ a p, ∃ ys : List Str, x = .str a ∧ xs = [.ref p] ∧ (SqL K H p (ys.map V.str) ∨ SqT K H p (ys.map V.str)) ∧ (ys.map (·.length)).sum + ys.length * a.length ≤ 16777216 ∧ Q (.str (Txt.join a ys)) H
theorem pe_joinN {o e : Expr} {to te : TE} {apos pos : Pos} (ho : PE X o to) (he : PE X e te) (hs : starEach [e] X.env = [(false, eval e X.env)] := by rfl) (hbase : attributeBase o "join" X.env (eval o X.env) = eval o X.env := by rfl) (hline : (apos.endLine == pos.line) = true := by rfl) :
    PE X (.Call (.Attribute o "join" apos) [e] [] pos) (tM1 (rJoin X.K) to te) := L2.pe_join ho he hs hbase hline
theorem r_M1 {r : V → List V → Hp → VK → Prop} {to te : TE} (h : to σ H fun x H1 => (∃ a, x = .str a) ∧ te σ H1 fun y H2 => r x [y] H2 Q) : tM1 r to te σ H Q := h
theorem r_M0 {r : V → List V → Hp → VK → Prop} {to : TE} (h : to σ H fun x H1 => (∃ a, x = .str a) ∧ r x [] H1 Q) : tM0 r to σ H Q := h
theorem r_strA {s : Str} {R : Prop} (q : R) : (∃ a, V.str s = .str a) ∧ R := ⟨⟨s, rfl⟩, q⟩
theorem r_join {a : Str} {p : Addr} {ys : List Str} (h : SqL K H p (ys.map V.str)) (l : (ys.map (·.length)).sum + ys.length * a.length ≤ 16777216) (q : Q (.str (Txt.join a ys)) H) : rJoin K (.str a) [.ref p] H Q := ⟨a, p, ys, rfl, rfl, .inl h, l, q⟩
def rSplit : V → List V → Hp → VK → Prop := fun x xs H Q => ∃ a b, x = .str a ∧ xs = [.str b] ∧ (b.length == 0) = false ∧ a.length + 2 ≤ sizeLine ∧ rNewStrs (Txt.split a b) H Q
theorem pe_splitN {o e : Expr} {to te : TE} {apos pos : Pos} (ho : PE X o to) (he : PE X e te) (hs : starEach [e] X.env = [(false, eval e X.env)] := by rfl) (hbase : attributeBase o "split" X.env (eval o X.env) = eval o X.env := by rfl) (hline : (apos.endLine == pos.line) = true := by rfl) :
    PE X (.Call (.Attribute o "split" apos) [e] [] pos) (tM1 rSplit to te) := L2.pe_split ho he hs hbase hline
theorem r_split {a b : Str} (hb : (b.length == 0) = false) (ha : a.length + 2 ≤ sizeLine) (q : ∀ p, H p = none → Q (.ref p) (upd H p (.lst ((Txt.split a b).map V.str)))) : rSplit (.str a) [.str b] H Q := ⟨a, b, rfl, rfl, hb, ha, q⟩
def rUpper : V → List V → Hp → VK → Prop := fun x xs H Q => ∃ a, x = .str a ∧ xs = [] ∧ a.length ≤ 5592405 ∧ Q (.str (Txt.upper a)) H
theorem pe_upperN {o : Expr} {to : TE} {apos pos : Pos} (ho : PE X o to) (hbase : attributeBase o "upper" X.env (eval o X.env) = eval o X.env := by rfl) (hline : (apos.endLine == pos.line) = true := by rfl) :
    PE X (.Call (.Attribute o "upper" apos) [] [] pos) (tM0 rUpper to) := L2.pe_upper ho hbase hline
theorem r_upper {a : Str} (h : a.length ≤ 5592405) (q : Q (.str (Txt.upper a)) H) : rUpper (.str a) [] H Q := ⟨a, rfl, rfl, h, q⟩
-- walks over a text
theorem r_iStr {te : TE} {R : It → Hp → Prop} (h : te σ H fun v H1 => ∃ x, v = .str x ∧ R (Its x) H1) : iStr te σ H R := h
theorem f_str {x : Str} {R : Str → Prop} (q : R x) : ∃ y, V.str x = .str y ∧ R y := ⟨x, rfl, q⟩
end
theorem at_sg {x : Str} {i c : Nat} (h : x.cps[i]? = some c) : (sg x)[i]? = some c := by
  show x.cps.toList[i]? = some c
  rw [Array.getElem?_toList]
  exact h
section
variable {ts : TS} {nx : L2.St → Hp → Prop} {rt : VK} {σ : L2.St} {H : Hp} {te : TE} {j : Nat}
theorem lp_str {x : Str} {g : TG} (Pv : Nat → L2.St → Hp → Prop) (h0 : Pv 0 σ H) (hs : ∀ i c σ H, (sg x)[i]? = some c → Pv i σ H → g (.str ⟨#[c]⟩) σ H fun σ2 H2 => ts (Ends.mk (Pv (i + 1)) rt nx (Pv (i + 1))) σ2 H2) (hd : ∀ σ H, Pv (sg x).length σ H → nx σ H) : ForW (Its x) g ts nx rt σ H := by
  have e : x.cps.size = (sg x).length := (Array.length_toList).symm
  refine ⟨fun i m σ H => m = (sg x).length - i ∧ i ≤ (sg x).length ∧ Pv i σ H, ⟨_, rfl, Nat.zero_le _, h0⟩, ?_⟩
  rintro i m σ H ⟨rfl, hi, p⟩
  by_cases hc : i = (sg x).length
  · subst hc
    exact .inl ⟨Nat.le_of_eq e, hd _ _ p⟩
  · refine .inr ⟨(by omega : i < x.cps.size), fun σ' H' => Pv (i + 1) σ' H', fun σ' H' q => ⟨(sg x).length - (i + 1), by omega, rfl, by omega, q⟩, ?_⟩
    rintro v H' ⟨rfl, c, hc, rfl⟩
    exact hs i c σ _ (at_sg hc) p
theorem lcw_str {x : Str} {tt : TT} {vs : List Nat} {H1 : Hp} {D : Addr} {Qd : Hp → Prop} (Pv : Nat → Hp → Prop) (h0 : Pv 0 (upd H1 D (.lst []))) (hw : ∀ x, wipe ((wipe σ vs).set j (some x)) vs = wipe σ vs)
    (hs : ∀ i c H, (sg x)[i]? = some c → Pv i H → LcT tt te D (Pv (i + 1)) ((wipe σ vs).set j (some (.str ⟨#[c]⟩))) H) (hd : ∀ H, Pv (sg x).length H → Qd H) : LcW (Its x) (gName j) tt te vs σ H1 D Qd := by
  have e : x.cps.size = (sg x).length := (Array.length_toList).symm
  refine ⟨fun i m H => m = (sg x).length - i ∧ i ≤ (sg x).length ∧ Pv i H, ⟨_, rfl, Nat.zero_le _, h0⟩, ?_⟩
  rintro i m H ⟨rfl, hi, p⟩
  by_cases hc : i = (sg x).length
  · subst hc
    exact .inl ⟨Nat.le_of_eq e, hd _ p⟩
  · refine .inr ⟨(by omega : i < x.cps.size), fun H' => Pv (i + 1) H', fun H' q => ⟨(sg x).length - (i + 1), by omega, rfl, by omega, q⟩, ?_⟩
    rintro v H' ⟨rfl, c, hc, rfl⟩
    exact ⟨hw _, hs i c _ (at_sg hc) p⟩
end
theorem inV_strs (z : Str) (ns : List Str) : inV (.str z) (ns.map V.str) = decide (z ∈ ns) := by
  unfold inV
  rw [List.any_map]
  by_cases h : z ∈ ns
  · rw [decide_eq_true h, List.any_eq_true]
    exact ⟨z, h, by show eqV (.str z) (.str z) = true; simp [eqV]⟩
  · rw [decide_eq_false h, Bool.eq_false_iff]
    intro c
    obtain ⟨y, m, e⟩ := List.any_eq_true.mp c
    have e' : eqV (.str y) (.str z) = true := e
    have : y = z := by simpa [eqV] using e'
    exact h (this ▸ m)
theorem r_inW {K : PySem.W.Frag} {H : Hp} {Q : VK} {a : Addr} {z : Str} {ns : List Str} (h : SqL K H a (ns.map V.str)) (q : Q (.bl (decide (z ∈ ns))) H) : rIn K false (.str z) (.ref a) H Q := by
  refine ⟨a, _, rfl, .inl h, rfl, ?_, ?_⟩
  · rw [List.all_eq_true]
    intro v m
    obtain ⟨y, _, rfl⟩ := List.mem_map.mp m
    rfl
  · rw [if_neg (by decide), inV_strs]
    exact q
theorem at_sgn {l : List Nat} {c : Nat} {z : Int} (j : Nat) (e : z = (j : Int)) (h : l[j]? = some c) : atI l z = some c := by
  rw [e]
  exact atI_nat h
theorem ix_nat {n : Nat} {z : Int} (j : Nat) (e : z = (j : Int)) (h : j < n) : ixN n z = some j := by
  subst e
  unfold ixN
  rw [if_pos (Int.natCast_nonneg j), if_pos (by omega)]
  rfl
theorem nl_sg : sg (Str.ofString "\n") = [10] := by rw [sg_lit]; rfl
theorem sp_sg : sg (Str.ofString " ") = [32] := by rw [sg_lit]; rfl
theorem em_sg : sg (Str.ofString "") = [] := by rw [sg_lit]; rfl
theorem str_nil {s : Str} : s = Str.ofString "" ↔ sg s = [] := ⟨fun h => by rw [h, em_sg], fun h => sg_ext (by rw [h, em_sg])⟩
theorem r_partI {i : Int} {R : Int → Prop} (h : R i) : ∃ j, V.int i = .int j ∧ R j := ⟨i, rfl, h⟩
theorem app_le {x y : Str} {a b : Nat} (h : x.length ≤ a) (k : y.length ≤ b) : (x ++ y).length ≤ a + b := by rw [len_app]; omega
theorem cut_le {x : Str} {lo hi : Option Int} {a : Nat} (h : x.length ≤ a) : (cutS x lo hi).length ≤ a := Nat.le_trans (cutS_length x lo hi) h
theorem lit_le (s : String) : (Str.ofString s).length ≤ s.toList.length := Nat.le_of_eq (len_lit s)
theorem mul_le {x : Str} {k : Int} {a : Nat} (h : x.length ≤ a) : (Txt.mul x k).length ≤ a * k.toNat := Nat.le_trans (mul_len x k) (Nat.mul_le_mul_right _ h)
theorem one_le (c : Nat) : (Str.mk #[c]).length ≤ 1 := Nat.le_refl 1
theorem tokS_mk {K : PySem.W.Frag} {h : Heap} {mg : Str → Option Value} {x : Str} {n : Str} {t : Tok} (KX : K.In h) (G : h.Ns mainGlobals mg) (a : PySem.W.nsIn K mainGlobals x = some (some (.str n t))) : ∃ t, mg x = some (.str n t) := ⟨t, PySem.W.mg_of KX G a⟩
end Vb
namespace Vb
open PySem PySem.Spec PyProof.Rows L2
/-! ### enumerate(t), t a tuple -/
theorem new_enumB {v : Value} {o : Obj} {G : Heap → Prop} (B : Begins v o G) :
    Meets (Builtin.«enumerate.__new__» ⟨[.type "enumerate", v], []⟩) (fun _ R z => G z.heap ∧ R (.ok (.ret (.ref (z.heap.push o).objs.size))) { z with heap := (z.heap.push o).push { cls := .type "enumerate", data := .fields #[.none, .bool false, .ref z.heap.objs.size, rawInt 0, .none, .none] } }) := by
  refine .of_wp fun P w A R z hz => ?_
  obtain ⟨hp, gg, dd, tk, os⟩ := z
  obtain ⟨g1, hz⟩ := hz
  have sb := sub_enumerate
  have begun : ∀ {A1 : Around} {E1 : Value → Shared → Prop} {Q1 : Value → Shared → Prop}, Q1 (.ref hp.objs.size) ⟨hp.push o, gg, dd, tk, os⟩ → wpAny (model P w) A1 (pyIter v) Q1 E1 ⟨hp, gg, dd, tk, os⟩ := fun q => B.iter P w _ _ ⟨hp, gg, dd, tk, os⟩ _ g1 q
  wp_walk using begun
  refine wpAny_stack_any (fun z => ?_)
  refine wpAny_pure ?_
  split
  · rename_i cc _ _ _ _ _
    cases (cc == Value.type "enumerate") <;> (wp_walk using begun; exact ⟨_, rfl, hz⟩)
  · wp_walk using begun
    exact ⟨_, rfl, hz⟩
section
variable {prog : Program} {w : World} {A : Around} {E : Value → Shared → Prop} {s : Shared}
theorem call_enumT {t : Addr} {items : Array Value} {Q : Value → Shared → Prop} (ht : s.heap.IsTuple t items)
    (q : ∀ h', IsEnum h' (s.heap.objs.size + 1) s.heap.objs.size 0 .none → h'.IsTupleIter s.heap.objs.size t 0 → (∀ b o, s.heap.get? b = some o → h'.get? b = some o) → Q (.ref (s.heap.objs.size + 1)) { s with heap := h' }) : wpAny (model prog w) A (call (.type "enumerate") [.ref t]) Q E s := by
  refine callType_new F.called_enumerate (by decide) (F.typeCall_enumerate_1 _) (F.newCall_enumerate_1 _) (fun x => F.args_object_init_2 x _) F.entry_enumerate_new (new_enumB (begins_tuple t items)) ⟨ht, ?_⟩
  generalize ho : ({ cls := .type "tuple_iterator", data := .fields #[.ref t, .int 0 0] } : Obj) = o
  have hf : o.isFreed = false := by rw [← ho]; rfl
  have hs : (s.heap.push o).objs.size = s.heap.objs.size + 1 := Heap.size_push ..
  show _ ∧ _
  rw [hs]
  generalize hu : ({ cls := .type "enumerate", data := .fields #[.none, .bool false, .ref s.heap.objs.size, rawInt 0, .none, .none] } : Obj) = u
  have he : ((s.heap.push o).push u).get? (s.heap.objs.size + 1) = some u := by
    have := Heap.get?_push_size (s.heap.push o) (o := u) (by rw [← hu]; rfl)
    rw [hs] at this
    exact this
  have he2 : IsEnum ((s.heap.push o).push u) (s.heap.objs.size + 1) s.heap.objs.size 0 .none := by
    show ((s.heap.push o).push u).get? (s.heap.objs.size + 1) = some _
    rw [he, ← hu]
  refine ⟨⟨u, he, by rw [← hu]⟩, q _ he2 ?_ (fun b ob hb => Heap.get?_push_of_some _ (Heap.get?_push_of_some _ hb))⟩
  exact ⟨o, Heap.get?_push_of_some _ (Heap.get?_push_size _ hf), by rw [← ho], by rw [← ho]; rfl⟩
end
/-- the tuple at a, which holds xs: each item with its number in a new pair -/
def Iet (K : PySem.W.Frag) (a : Addr) (xs : List V) : It :=
  ⟨fun i H => SqT K H a xs ∧ i < xs.length, fun i H v H' => ∃ T x, v = .ref T ∧ H T = none ∧ H' = upd H T (.tup [.int (i : Nat), x]) ∧ xs[i]? = some x, fun i H => SqT K H a xs ∧ xs.length ≤ i⟩
theorem turn_enumT {P : Program} {w : World} {K : PySem.W.Frag} {elts : List Expr} {kk : Nat} {tpos : Pos} (a e it : Addr) (xs : List V) :
    Turn P w K (.Tuple elts kk tpos) (Iet K a xs) [e, it] e (fun i h => (∃ old, IsEnum h e it ((i : Nat) : Int) old) ∧ h.IsTupleIter it a i ∧ (e ≠ it ∧ a ≠ it) ∧ i ≤ xs.length) where
  mem := List.mem_cons_self
  obj := by
    intro i h st b hb
    obtain ⟨⟨old, he⟩, ⟨o, ho, hc, hd⟩, _⟩ := st
    simp only [List.mem_cons, List.not_mem_nil, or_false] at hb
    rcases hb with rfl | rfl
    · exact ⟨_, he, fun v q => nomatch q⟩
    · exact ⟨o, ho, fun v q => by rw [hd] at q; cases q⟩
  keep := by
    intro i h h' st k
    obtain ⟨⟨old, he⟩, hi, hn⟩ := st
    exact ⟨⟨old, k e (by simp) _ he⟩, hi.at (fun o q => k it (by simp) o q), hn⟩
  item := by
    intro X hP hw hK hc i pins s σ H E I hf st hg
    subst hP; subst hw; subst hK
    obtain ⟨⟨old, he⟩, hit, ⟨hne, hna⟩, hle⟩ := st
    obtain ⟨hq, hx⟩ := hg
    obtain ⟨its, rv, p, hz⟩ := I.tuple hq
    obtain ⟨u, hu, ru⟩ := rv.get (List.getElem?_eq_getElem hx)
    have le := Heap.lt_size he
    have li : it < s.heap.objs.size := by obtain ⟨_, q, _⟩ := hit; exact Heap.lt_size q
    have pt : s.heap.IsTuple a its.toArray := p
    have hea : e ≠ a := fun z => by
      obtain ⟨o, h1, h2, _⟩ := pt
      rw [← z] at h1
      have := he.symm.trans h1
      cases this
      simp at h2
    have hlt : i < its.toArray.size := by
      have := (List.getElem?_eq_some_iff.mp hu).1
      simpa using this
    have D : Draws X.prog X.w X.A.in1 it [it, a] its.toArray.size (fun i v => its.toArray[i]? = some v) (fun i h => h.IsTupleIter it a i ∧ h.IsTuple a its.toArray) := Draws.tuple (show X.A.in1.handled = none from I.ok.hd hc) it a hna its.toArray
    refine wpAny_pyNext_enum_itemD D he ⟨hit, pt⟩ hlt hne (by simp [hne, hea]) fun u' h' tk hP ho hst hT hsz hk => ?_
    obtain rfl : u = u' := by
      have : its[i]? = some u' := by simpa using hP
      rw [hu] at this
      exact Option.some.inj this
    refine ⟨_, rfl, wpAny_letOwnedTupleGo_enum (s := { s with heap := h', toks := tk + 1 }) ho fun h2 he2 sb => ?_⟩
    have hT2 : h2.get? s.heap.objs.size = some { cls := .type "tuple", data := .seq #[.int i tk, u] } := (sb.2 _ (Nat.ne_of_gt le)).trans hT
    have new : ObjOk X.prog X.w (upd H s.heap.objs.size (.tup [.int (i : Nat), xs[i]])) h2 s.heap.objs.size (.tup [.int (i : Nat), xs[i]]) := ⟨size_ok (by show 2 ≤ 16777216; decide), [.int i tk, u], .cons ⟨_, rfl⟩ (.cons ru .nil), ⟨_, hT2, rfl, _, rfl⟩⟩
    have J : Inv X pins σ (upd H s.heap.objs.size (.tup [.int (i : Nat), xs[i]])) { s with heap := h2, toks := tk + 1 } :=
      I.turnedNew (t' := tk + 1) (ch := [e, it]) (fun b ob hb q => (sb.2 b (fun z => hb (by simp [z]))).trans (hk b ob (fun z => hb (by simp [z])) (fun z => hb (by simp [z])) q)) hf (Nat.le_refl _) new
    refine ⟨.ref s.heap.objs.size, _, J, rfl, ⟨_, xs[i], rfl, I.hok.fresh (Nat.le_refl _), rfl, List.getElem?_eq_getElem hx⟩, ⟨⟨u, ?_⟩, hst.1.at (fun o q => (sb.2 it (Ne.symm hne)).trans q), ⟨hne, hna⟩, hx⟩, fun b hb => ?_⟩
    · rw [show ((i + 1 : Nat) : Int) = (i : Int) + 1 by omega]
      exact he2
    · have lb : b < s.heap.objs.size := by
        simp only [List.mem_cons, List.not_mem_nil, or_false] at hb
        rcases hb with rfl | rfl
        · exact le
        · exact li
      rw [upd_ne (Nat.ne_of_lt lb)]
      exact (hf b hb).1
  done := by
    intro X hP hw hK hc i pins s σ H E I hf st hg
    subst hP; subst hw; subst hK
    obtain ⟨⟨old, he⟩, hit, ⟨hne, hna⟩, hle⟩ := st
    obtain ⟨hq, hx⟩ := hg
    obtain ⟨its, rv, p, hz⟩ := I.tuple hq
    have pt : s.heap.IsTuple a its.toArray := p
    have hl := rv.length
    have D : Draws X.prog X.w X.A.in1 it [it, a] its.toArray.size (fun i v => its.toArray[i]? = some v) (fun i h => h.IsTupleIter it a i ∧ h.IsTuple a its.toArray) := Draws.tuple (show X.A.in1.handled = none from I.ok.hd hc) it a hna its.toArray
    have hi : its.toArray.size = i := by simp; omega
    obtain ⟨f0, f1, f2, f3, f4, f5⟩ := hf it (by simp)
    refine wpAny_pyNext_enum_endD D he (by rw [hi]; exact ⟨hit, pt⟩) fun h' eb => ⟨rfl, ?_⟩
    exact I.turned (t' := s.toks) (fun b o hb q => eb b o hb q) f0 f1 f3 f4 f5
  self := by
    intro A i s Q E st q
    obtain ⟨⟨_, he⟩, _⟩ := st
    exact wpAny_pyIter_enum he q
def iEnumT (K : PySem.W.Frag) (ta : TA) : TI := fun σ H R => ta σ H fun vs H1 => ∃ a xs, vs = [.ref a] ∧ SqT K H1 a xs ∧ R (Iet K a xs) H1
theorem pi_enumT {X : Cx} {e : Expr} {ta : TA} {p pos tpos : Pos} {elts : List Expr} {kk : Nat} (hg : Gl X "enumerate") (hm : X.mg "enumerate" = none) (ha : PA X [e] ta) (hs : starEach [e] X.env = [(false, eval e X.env)] := by rfl) :
    PI X (.Tuple elts kk tpos) (.Call (.Name "enumerate" p) [e] [] pos) (iEnumT X.K ta) := by
  refine ⟨fun pins s σ H R I h => ?_⟩
  refine Call_ (ld_blt I hg hm boot_enumerate (callWith_type1 (thn (ha.run pos pins s σ H _ I h) fun us s1 ⟨vs, H1, I1, r1, q1⟩ => ?_) hs rfl))
  obtain ⟨a, xs, ex, hq, q⟩ := q1
  subst ex
  obtain ⟨u0, hu0, r0⟩ := vals1 r1
  subst hu0
  obtain rfl : u0 = Value.ref a := r0
  obtain ⟨its, rv, pt, hz⟩ := I1.tuple hq
  refine call_enumT (t := a) pt fun h' he hit hk => ?_
  refine wpAny_pyIter_enum he ?_
  have I2 : Inv X pins σ H1 { s1 with heap := h' } := I1.kept (t' := s1.toks) hk
  have na : a ≠ s1.heap.objs.size := fun z => by
    obtain ⟨o, ho, _⟩ := pt
    rw [z] at ho
    exact Nat.lt_irrefl _ (Heap.lt_size ho)
  refine ⟨s1.heap.objs.size + 1, [s1.heap.objs.size + 1, s1.heap.objs.size], _, _, H1, rfl, I2, turn_enumT a (s1.heap.objs.size + 1) s1.heap.objs.size xs, ⟨⟨.none, he⟩, hit, ⟨Nat.succ_ne_self _, na⟩, Nat.zero_le _⟩, fun b hb => ?_, q⟩
  have lb : s1.heap.objs.size ≤ b := by
    simp only [List.mem_cons, List.not_mem_nil, or_false] at hb
    rcases hb with rfl | rfl
    · exact Nat.le_add_right _ _
    · exact Nat.le_refl _
  exact I1.fpOk lb (I1.hok.fresh lb)
section
variable {ts : TS} {nx : L2.St → Hp → Prop} {rt : VK} {σ : L2.St} {H : Hp} {te : TE} {K : PySem.W.Frag}
theorem lp_enumT {a : Addr} {xs : List V} {g : TG} (Pv : Nat → L2.St → Hp → Prop) (h0 : Pv 0 σ H) (hl : ∀ i σ H, i ≤ xs.length → Pv i σ H → SqT K H a xs)
    (hs : ∀ i x σ H T, xs[i]? = some x → Pv i σ H → H T = none → g (.ref T) σ (upd H T (.tup [.int (i : Nat), x])) fun σ2 H2 => ts (Ends.mk (Pv (i + 1)) rt nx (Pv (i + 1))) σ2 H2) (hd : ∀ σ H, Pv xs.length σ H → nx σ H) : ForW (Iet K a xs) g ts nx rt σ H := by
  refine ⟨fun i m σ H => m = xs.length - i ∧ i ≤ xs.length ∧ Pv i σ H, ⟨_, rfl, Nat.zero_le _, h0⟩, ?_⟩
  rintro i m σ H ⟨rfl, hi, p⟩
  have q := hl i σ H hi p
  by_cases hc : i = xs.length
  · subst hc
    exact .inl ⟨⟨q, Nat.le_refl _⟩, hd _ _ p⟩
  · refine .inr ⟨⟨q, by omega⟩, fun σ' H' => Pv (i + 1) σ' H', fun σ' H' z => ⟨xs.length - (i + 1), by omega, rfl, by omega, z⟩, ?_⟩
    rintro v H' ⟨T, x, rfl, hT, rfl, hx⟩
    exact hs i x σ _ T hx p hT
theorem r_iEnumT {ta : TA} {R : It → Hp → Prop} (h : ta σ H fun vs H1 => ∃ a xs, vs = [.ref a] ∧ SqT K H1 a xs ∧ R (Iet K a xs) H1) : iEnumT K ta σ H R := h
end
/-! ### a op b, -a by the text's own defs; they may raise -/
section
variable {X : Cx} {CX : CXT} {k : Nat} {f C : Addr} {fd : FuncData} {ps : List Str} {sp : Sp} {E : L2.St → XK} {a b : Expr} {ta tb : TE} {pos : Pos} {op : Operator} {m : Str}
/-- the text's own op of two objects of C, whose answer is an object -/
def tBinP (C : Addr) (sp : Sp) (E : L2.St → XK) (ta tb : TE) : TE := fun σ H Q => ta σ H fun x H1 => tb σ H1 fun y H2 => ∃ a b dx dy fs gs, x = .ref a ∧ y = .ref b ∧ H2 a = some (.ins C dx fs) ∧ H2 b = some (.ins C dy gs) ∧ sp [x, y] H2 (fun v H' => ∃ r, v = .ref r ∧ Q v H') (E σ)
theorem pe_binP (hs : PySem.W.findIn X.K (.ref C) m = some (some (.ref f))) (hf : PySem.W.isFn X.K (.ref f) = true) (hc : PySem.W.selfFirst X.K C = true) (F : FnOk X.prog X.w X.K X.mg X.base CX k f fd ps sp) (hr : Room k X.A) (hb : Binds X.K fd ps []) (hx : ∀ σ, PassesAt CX X σ (E σ)) (hm : PySem.dunder op.info.2 = m)
    (pa : PE X a ta) (pb : PE X b tb) : PE X (.BinOp a op b pos) (tBinP C sp E ta tb) := by
  refine ⟨fun pins s σ H Q I h => ?_⟩
  refine wpAny_BinOp (binT pa pb I (R := fun x y H2 => ∃ a b dx dy fs gs, x = .ref a ∧ y = .ref b ∧ H2 a = some (.ins C dx fs) ∧ H2 b = some (.ins C dy gs) ∧ sp [x, y] H2 (fun v H' => ∃ r, v = .ref r ∧ Q v H') (E σ)) h fun v u s2 x y H2 I2 rx ry q => ?_)
  obtain ⟨o1, o2, dx, dy, fs, gs, rfl, rfl, h1, h2, q⟩ := q
  obtain rfl : v = Value.ref o1 := rx
  obtain rfl : u = Value.ref o2 := ry
  obtain ⟨mA, J1, _⟩ := ins_get I2.hok h1
  obtain ⟨od1, J1, _⟩ := J1.look
  obtain ⟨mB, J2, _⟩ := ins_get I2.hok h2
  obtain ⟨od2, J2, _⟩ := J2.look
  obtain ⟨m', hF⟩ := I2.fr
  refine PySem.W.binop_K hF I2.ok.mod.kin J1 J2.type hc (by rw [hm]; exact hs) hf ?_
  refine wpAny_mono (run_fnS (E := fun _ => E σ) (us := [.ref o1, .ref o2]) (vs := [.ref o1, .ref o2]) F hr hb (hx σ) I2 (.cons rfl (.cons rfl .nil)) q) (fun w' s' z => ?_) fun _ _ z => z
  obtain ⟨v', H', I', rw', r, rfl, q'⟩ := z
  obtain rfl : w' = Value.ref r := rw'
  exact ⟨.ref r, H', I', rfl, q'⟩
def tNegP (C : Addr) (sp : Sp) (E : L2.St → XK) (ta : TE) : TE := fun σ H Q => ta σ H fun x H1 => ∃ a dx fs, x = .ref a ∧ H1 a = some (.ins C dx fs) ∧ sp [x] H1 Q (E σ)
theorem pe_negP (hs : PySem.W.findIn X.K (.ref C) "__neg__" = some (some (.ref f))) (hf : PySem.W.isFn X.K (.ref f) = true) (F : FnOk X.prog X.w X.K X.mg X.base CX k f fd ps sp) (hr : Room k X.A) (hb : Binds X.K fd ps []) (hx : ∀ σ, PassesAt CX X σ (E σ))
    (pa : PE X a ta) : PE X (.UnaryOp .USub a pos) (tNegP C sp E ta) := by
  refine ⟨fun pins s σ H Q I h => ?_⟩
  refine UnaryOp_ (thn (pa.run pins s σ H _ I h) fun v s1 ⟨x, H1, I1, r1, q1⟩ => ?_)
  obtain ⟨o1, dx, fs, rfl, h1, q⟩ := q1
  obtain rfl : v = Value.ref o1 := r1
  obtain ⟨mA, J1, _⟩ := ins_get I1.hok h1
  obtain ⟨od1, J1, _⟩ := J1.look
  obtain ⟨m', hF⟩ := I1.fr
  refine PySem.W.ksp_neg hF I1.ok.mod.kin J1 hs hf ?_
  exact run_fnS (E := fun _ => E σ) (us := [.ref o1]) (vs := [.ref o1]) F hr hb (hx σ) I1 (.cons rfl .nil) q
end
section
variable {X : Cx} {tg l : Expr} {tl : TE} {K : PySem.W.Frag}
/-- a walk over a list or a tuple -/
def iSeq (K : PySem.W.Frag) (tl : TE) : TI := fun σ H R => tl σ H fun x H1 => ∃ a, x = .ref a ∧ (((∃ xs, SqL K H1 a xs) ∧ R (Itl K a) H1) ∨ ((∃ xs, SqT K H1 a xs) ∧ R (Itt K a) H1))
theorem pi_seq (hl : PE X l tl) : PI X tg l (iSeq X.K tl) := by
  refine ⟨fun pins s σ H R I h => ?_⟩
  refine thn (hl.run pins s σ H _ I h) fun v s1 z => ?_
  obtain ⟨x, H1, I1, r1, a, e, q⟩ := z
  subst e
  obtain rfl : v = Value.ref a := r1
  have fr := I1.hok.fresh (Nat.le_refl s1.heap.objs.size)
  have kp : ∀ (ob : Obj) (b : Addr) (o : Obj), s1.heap.get? b = some o → (s1.heap.push ob).get? b = some o := fun ob b o z => Heap.get?_push_of_some _ z
  have ok : ∀ b ∈ [s1.heap.objs.size], FpOk X pins H1 b := fun b hb => by
    obtain rfl := List.mem_singleton.mp hb
    exact I1.fpOk (Nat.le_refl _) fr
  rcases q with ⟨⟨xs, hq⟩, q⟩ | ⟨⟨xs, hq⟩, q⟩
  · obtain ⟨its, rv, pl, _⟩ := I1.list hq
    exact wpAny_pyIter_list pl.isList ⟨s1.heap.objs.size, [s1.heap.objs.size], _, _, H1, rfl, I1.kept (t' := s1.toks) (kp _), turn_list a _, ⟨_, Heap.get?_push_size _ rfl, rfl, rfl⟩, ok, q⟩
  · obtain ⟨its, rv, pt, _⟩ := I1.tuple hq
    exact wpAny_pyIter_tuple (show s1.heap.IsTuple a its.toArray from pt) ⟨s1.heap.objs.size, [s1.heap.objs.size], _, _, H1, rfl, I1.kept (t' := s1.toks) (kp _), turn_tuple a _, ⟨_, Heap.get?_push_size _ rfl, rfl, rfl⟩, ok, q⟩
theorem sqT_same {K : PySem.W.Frag} {H H' : Hp} {a : Addr} {xs : List V} (e : Same H H') (h : SqT K H a xs) : SqT K H' a xs := by
  rcases h with h | h
  · rcases h with h | h
    · exact .inl (.inl (e _ _ h))
    · obtain ⟨o, h⟩ := h
      exact .inl (.inr ⟨o, e _ _ h⟩)
  · exact .inr h
theorem sqT_fr {K : PySem.W.Frag} {H H' : Hp} {a st : Addr} {xs : List V} (f : Fr st H H') (S : StoreAt H st) (h : SqT K H a xs) : SqT K H' a xs := by
  obtain ⟨l, ns, u1, u2, u3, u4, u5, h1, _⟩ := S
  rcases h with h | h
  · rcases h with h | h
    · exact .inl (.inl (f.k _ _ (fun z => by rw [z, h1] at h; cases h) h))
    · obtain ⟨o, h⟩ := h
      exact .inl (.inr ⟨o, f.k _ _ (fun z => by rw [z, h1] at h; cases h) h⟩)
  · exact .inr h
/-- a list or a tuple of these values stands at a -/
def SqA (K : PySem.W.Frag) (H : Hp) (a : Addr) (xs : List V) : Prop := SqL K H a xs ∨ SqT K H a xs
theorem r_iSeq {R : It → Hp → Prop} {σ : L2.St} {H : Hp} (h : tl σ H fun x H1 => ∃ a, x = .ref a ∧ (((∃ xs, SqL K H1 a xs) ∧ R (Itl K a) H1) ∨ ((∃ xs, SqT K H1 a xs) ∧ R (Itt K a) H1))) : iSeq K tl σ H R := h
end
section
variable {ts : TS} {nx : L2.St → Hp → Prop} {rt : VK} {σ : L2.St} {H : Hp} {te : TE} {K : PySem.W.Frag}
theorem lp_seq {a : Addr} {xs : List V} {g : TG} (Pv : Nat → L2.St → Hp → Prop) (h0 : Pv 0 σ H) (hl : SqA K H a xs) (hk : ∀ i σ' H', i ≤ xs.length → Pv i σ' H' → Same H H')
    (hs : ∀ i x σ H, xs[i]? = some x → Pv i σ H → g x σ H fun σ2 H2 => ts (Ends.mk (Pv (i + 1)) rt nx (Pv (i + 1))) σ2 H2) (hd : ∀ σ H, Pv xs.length σ H → nx σ H) :
    ∃ a', V.ref a = .ref a' ∧ (((∃ xs, SqL K H a' xs) ∧ ForW (Itl K a') g ts nx rt σ H) ∨ ((∃ xs, SqT K H a' xs) ∧ ForW (Itt K a') g ts nx rt σ H)) := by
  refine ⟨a, rfl, ?_⟩
  rcases hl with hl | hl
  · exact .inl ⟨⟨xs, hl⟩, lp_list (xs := xs) Pv h0 (fun i σ' H' hi p => (hk i σ' H' hi p).seq hl) hs hd⟩
  · exact .inr ⟨⟨xs, hl⟩, lp_tup (xs := xs) Pv h0 (fun i σ' H' hi p => sqT_same (hk i σ' H' hi p) hl) hs hd⟩
end
/-! ### t[::-1], t a tuple -/
section
open HT
variable {prog : Program} {w : World} {A : Around} {E : Value → Shared → Prop} {s : Shared}
theorem adjust_back (n : Nat) : Builtin.Slice.sliceAdjust none none (-1) (n : Int) = ((n : Int) - 1, -1) := by
  unfold Builtin.Slice.sliceAdjust
  simp
theorem places_back (n : Nat) : Builtin.Slice.slicePlaces ((n : Int) - 1) (-1) (-1) = n := by
  unfold Builtin.Slice.slicePlaces
  rw [if_neg (by decide)]
  split
  · rw [show -(-1 : Int) = 1 from rfl, Int.ediv_one]
    omega
  · show 0 = n
    omega
theorem applied_back {sl : Addr} {vl vu vs : Value} {n : Nat} {Q : Int × Int × Nat → Shared → Prop} (hs : s.heap.IsSliceOf sl vl vu vs) (pl : IsPart vl none) (pu : IsPart vu none) (ps : IsPart vs (some (-1)))
    (q : Q ((n : Int) - 1, -1, n) s) : wpAny (model prog w) A (Builtin.Slice.sliceApplied (.ref sl) (pure (n : Int))) Q E s := by
  obtain ⟨ob, h1, h2, h3⟩ := id hs
  unfold Builtin.Slice.sliceApplied Builtin.Slice.sliceFields
  refine wpAny_bind (wpAny_bind (wpAny_field h1 h3 (x := vl) rfl ?_))
  refine wpAny_bind (wpAny_field h1 h3 (x := vu) rfl ?_)
  refine wpAny_bind (wpAny_field h1 h3 (x := vs) rfl ?_)
  refine wpAny_pure ?_
  refine wpAny_bind (slicePart_ ps ?_)
  show wpAny _ _ (if ((-1 : Int) == 0) = true then _ else _) _ _ s
  rw [if_neg (by decide)]
  refine wpAny_bind (slicePart_ pl ?_)
  refine wpAny_bind (slicePart_ pu ?_)
  refine wpAny_bind (wpAny_pure ?_)
  show wpAny _ _ (match Builtin.Slice.sliceAdjust none none (-1) (n : Int) with | (l, u) => pure (l, (-1 : Int), Builtin.Slice.slicePlaces l u (-1))) _ _ s
  rw [adjust_back]
  show wpAny _ _ (pure ((n : Int) - 1, (-1 : Int), Builtin.Slice.slicePlaces ((n : Int) - 1) (-1) (-1))) _ _ s
  rw [places_back]
  exact wpAny_pure q
theorem pick_back {α : Type} (xs : List α) : (List.range xs.length).filterMap (fun (k : Nat) => xs[((xs.length : Int) - 1 + (k : Int) * (-1)).toNat]?) = xs.reverse := by
  have h : ∀ n, n ≤ xs.length → (List.range n).filterMap (fun (k : Nat) => xs[((xs.length : Int) - 1 + (k : Int) * (-1)).toNat]?) = xs.reverse.take n := by
    intro n
    induction n with
    | zero => intro _; simp
    | succ n ih =>
      intro hn
      rw [List.range_succ, List.filterMap_append, ih (by omega), List.take_add_one]
      have e : ((xs.length : Int) - 1 + (n : Int) * (-1)).toNat = xs.length - 1 - n := by omega
      have e2 : xs.reverse[n]? = xs[xs.length - 1 - n]? := List.getElem?_reverse (by omega)
      rw [e2]
      have hlt : xs.length - 1 - n < xs.length := by omega
      have e3 : [n].filterMap (fun (k : Nat) => xs[((xs.length : Int) - 1 + (k : Int) * (-1)).toNat]?) = [xs[xs.length - 1 - n]] := by
        rw [List.filterMap_cons, e, List.getElem?_eq_getElem hlt]
        rfl
      rw [e3, List.getElem?_eq_getElem hlt]
      rfl
  rw [h _ (Nat.le_refl _)]
  exact List.take_of_length_le (by simp)
theorem get_back {t sl : Addr} {its : List Value} {vl vu vs : Value} {Q : Value → Shared → Prop} (ht : IsTup s.heap t its.toArray) (hs : s.heap.IsSliceOf sl vl vu vs) (pl : IsPart vl none) (pu : IsPart vu none) (ps : IsPart vs (some (-1)))
    (q : Q (.ref s.heap.objs.size) { s with heap := s.heap.push { cls := .type "tuple", data := .seq its.reverse.toArray } }) (hz : its.length ≤ sizeLine) : wpAny (model prog w) A (getItem (.ref t) (.ref sl)) Q E s := by
  obtain ⟨ob, h1, h2, h3⟩ := id hs
  have ty : s.TypeIs (.ref sl) "slice" := ⟨ob, h1, h2⟩
  have fits : sizeOk (.seq its.reverse.toArray) := by
    show its.reverse.toArray.size ≤ sizeLine
    rw [List.size_toArray, List.length_reverse]
    exact hz
  unfold getItem
  refine wpAny_holding ?_
  refine wpAny_bind (wpAny_sequenceKey ht.typeIs (by decide) ?_)
  refine wpAny_bind (wpAny_callSpecial?_slot (name := Str.ofString "__getitem__") ht.typeIs slot_tuple_getitem ?_)
  refine wpAny_call_entry slot_tuple_getitem ht.typeIs entry_tuple_getitem ?_ (args_tuple_getitem _ _)
  show wpAny _ _ (Builtin.Tuple.tupleItemsOf (.ref t) >>= _) _ _ s
  refine wpAny_bind (tupleItemsOf_ ht (wpAny_bind (wpAny_typeOf ty ?_)))
  rw [if_pos (by decide)]
  have sz : its.toArray.size = its.length := List.size_toArray
  refine wpAny_bind (applied_back (n := its.toArray.size) hs pl pu ps ?_)
  have no : ¬ (((its.toArray.size : Int) - 1 == 0 && (-1 : Int) == 1 && its.toArray.size == its.toArray.size) = true) := by simp
  show wpAny _ _ (if ((its.toArray.size : Int) - 1 == 0 && (-1 : Int) == 1 && its.toArray.size == its.toArray.size) = true then _ else _) _ _ s
  rw [if_neg no]
  have pk : ((List.range its.toArray.size).filterMap fun (k : Nat) => its.toArray[((its.toArray.size : Int) - 1 + (k : Int) * (-1)).toNat]?) = its.reverse := by
    rw [sz]
    simp only [List.getElem?_toArray]
    exact pick_back its
  rw [pk]
  first
    | exact wpAny_bind (m := Builtin.Tuple.tupleExact _) (wpAny_newObj_type (wpAny_pure ⟨_, rfl, wpAny_pure q⟩) fits)
    | exact wpAny_bind (m := Builtin.Tuple.tupleExact _) (wpAny_newObj_type (wpAny_bind (wpAny_pure (wpAny_pure ⟨_, rfl, wpAny_pure q⟩))) fits)
    | exact wpAny_bind (wpAny_bind (m := Builtin.Tuple.tupleExact _) (wpAny_newObj_type (wpAny_pure (wpAny_pure ⟨_, rfl, wpAny_pure q⟩)) fits))
    | exact wpAny_bind (wpAny_bind (m := Builtin.Tuple.tupleExact _) (wpAny_newObj_type (wpAny_pure ⟨_, rfl, wpAny_pure q⟩) fits))
end
section
variable {X : Cx}
def tRevT (K : PySem.W.Frag) (te : TE) : TE := fun σ H Q => te σ H fun x H1 => ∃ a xs, x = .ref a ∧ SqT K H1 a xs ∧ ∀ p, H1 p = none → Q (.ref p) (upd H1 p (.tup xs.reverse))
theorem pe_revT {e : Expr} {te : TE} {k : Nat} {p1 p2 p3 pos : Pos} (he : PE X e te) : PE X (.Subscript e (.Slice none none (some (.UnaryOp .USub (.Constant (.int 1) k p1) p2)) p3) pos) (tRevT X.K te) := by
  refine ⟨fun pins s σ H Q I h => ?_⟩
  refine Subscript_ (thn (he.run pins s σ H _ I h) fun v s1 z => ?_)
  obtain ⟨x, H1, I1, r1, a, xs, ex, hx, q⟩ := z
  subst ex
  obtain rfl : v = Value.ref a := r1
  have st : PO X (some (.UnaryOp .USub (.Constant (.int 1) k p1) p2)) (tPart (tUn (rU fun i => .int (-i)) (tC (.int 1)))) := po_some (pe_un un_neg pe_int)
  refine wpAny_Slice (thn (po_none.run pins s1 σ H1 (fun o H2 => o = none ∧ H2 = H1) I1 ⟨rfl, rfl⟩) fun vl s2 z => ?_)
  obtain ⟨l, H2, I2, pl, el, e2⟩ := z
  subst el; subst e2
  refine thn (po_none.run pins s2 σ H2 (fun o H3 => o = none ∧ H3 = H2) I2 ⟨rfl, rfl⟩) fun vu s3 z => ?_
  obtain ⟨u, H3, I3, pu, eu, e3⟩ := z
  subst eu; subst e3
  refine thn (st.run pins s3 σ H3 (fun o H4 => o = some (-1) ∧ H4 = H3) I3 ⟨1, rfl, -1, rfl, rfl, rfl⟩) fun vs s4 z => ?_
  obtain ⟨o, H4, I4, ps, eo, e4⟩ := z
  subst eo; subst e4
  have I5 : Inv X pins σ H4 { s4 with heap := s4.heap.push { cls := .type "slice", data := .fields #[vl, vu, vs] } } := I4.kept (t' := s4.toks) (fun b ob z => Heap.get?_push_of_some _ z)
  obtain ⟨its, r, ht, hz⟩ := I5.tuple hx
  have hlen := r.length
  show wpAny (model X.prog X.w) X.A (subscriptTail e (.Slice none none (some (.UnaryOp .USub (.Constant (.int 1) k p1) p2)) p3) (.ref a) (.ref s4.heap.objs.size)) (EP X pins σ Q) X.xe { s4 with heap := s4.heap.push { cls := .type "slice", data := .fields #[vl, vu, vs] } }
  refine tail_any (ops := [.ref a, .ref s4.heap.objs.size]) ht.typeIs (slot_tuple_getitem.lookup) ?_ (by with_unfolding_all rfl)
  refine get_back ht (Heap.IsSliceOf.new _ vl vu vs) pl pu ps ?_ (by omega)
  refine ⟨.ref _, _, I5.laid (t' := s4.toks) (o := .tup xs.reverse) (fun b ob z => Heap.get?_push_of_some _ z) (Nat.le_refl _) ?_, rfl, q _ (I5.hok.fresh (Nat.le_refl _))⟩
  exact ⟨by rw [List.length_reverse]; exact hz, _, r.reverse, IsTup.new _ _⟩
theorem r_revT {K : PySem.W.Frag} {te : TE} {σ : L2.St} {H : Hp} {Q : VK} (h : te σ H fun x H1 => ∃ a xs, x = .ref a ∧ SqT K H1 a xs ∧ ∀ p, H1 p = none → Q (.ref p) (upd H1 p (.tup xs.reverse))) : tRevT K te σ H Q := h
end
/-! ### a list or a tuple: readings -/
section
variable {K : PySem.W.Frag} {H H' : Hp} {Q : VK} {a : Addr} {xs : List V}
theorem sqA_same (e : Same H H') (h : SqA K H a xs) : SqA K H' a xs := h.elim (fun h => .inl (e.seq h)) (fun h => .inr (sqT_same e h))
theorem r_ixA {z : Int} {v : V} (h : SqA K H a xs) (e : atI xs z = some v) (q : Q v H) : rIx K (.ref a) (.int z) H Q := h.elim (fun h => r_ixSL h e q) (fun h => r_ixST h e q)
theorem r_lenA (h : SqA K H a xs) (q : Q (.int xs.length) H) : rLenS K [.ref a] H Q := h.elim (fun h => r_len h q) (fun h => r_lenT h q)
theorem r_slA {lo hi : Option Int} (h : SqA K H a xs) (q : ∀ t H', Same H H' → SqA K H' t (cutV xs lo hi) → Q (.ref t) H') : rSlL K (.ref a) lo hi H Q ∨ rSlA K (.ref a) lo hi H Q := by
  rcases h with h | h
  · exact .inl ⟨a, xs, rfl, h, fun p n => q p _ (same_new n) (.inl (sq_of upd_same))⟩
  · refine .inr ⟨a, xs, rfl, h, fun z => q a H (Same.refl _) (.inr ?_), fun _ p n => q p _ (same_new n) (.inr (st_of upd_same))⟩
    have e : cutV xs lo hi = xs := by
      unfold cutV
      rw [z.1, z.2]
      simp
    rw [e]
    exact h
theorem r_tupA (h : SqA K H a xs) (q : ∀ t H', Same H H' → SqT K H' t xs → Q (.ref t) H') : rTup K [.ref a] H Q := by
  rcases h with h | h
  · exact r_tupL h fun l n => q l _ (same_new n) (st_of upd_same)
  · exact r_tupT h (q a H (Same.refl _) h)
theorem sqT_upd {o : HO} {C dx : Addr} {fs : List (Str × V)} {b : Addr} (h : SqT K H a xs) (g : H b = some (.ins C dx fs)) : SqT K (upd H b o) a xs := by
  rcases h with h | h
  · rcases h with h | h
    · exact .inl (.inl (h_ne (fun z => by rw [z, g] at h; cases h) h))
    · obtain ⟨u, h⟩ := h
      exact .inl (.inr ⟨u, h_ne (fun z => by rw [z, g] at h; cases h) h⟩)
  · exact .inr h
theorem r_gT2 {σ : L2.St} {C : L2.St → Hp → Prop} {T : Addr} {u v : V} {i j : Nat} (h : SqT K H T [u, v]) (q : C ((σ.set i (some u)).set j (some v)) H) : gTup K 2 (gCons (gName i) (gCons (gName j) gNil)) (.ref T) σ H C := ⟨T, _, rfl, h, rfl, u, _, rfl, v, _, rfl, rfl, q⟩
theorem cut_take {n : Nat} (h : n ≤ xs.length) : cutV xs none (some (n : Int)) = xs.take n := by
  unfold cutV
  have e : HT.sIx xs.length xs.length (some (n : Int)) = n := by
    rw [HT.sIx_nat]
    exact Nat.min_eq_left h
  have e0 : HT.sIx xs.length 0 none = 0 := by
    unfold HT.sIx
    simp
  rw [e, e0]
  simp
end
theorem pe_fldK {X : Cx} {K : PySem.W.Frag} {e : Expr} {f : Str} {pos : Pos} {ta : TE} (hK : X.K = K) (he : PE X e ta) (hb : attributeBase e f X.env (eval e X.env) = eval e X.env) : PE X (.Attribute e f pos) (tFld K ta f) := by
  subst hK
  exact pe_fld he hb
theorem ix_listK {X : Cx} {K : PySem.W.Frag} (hK : X.K = K) : IxR X (rIxL K) := by
  subst hK
  exact ix_list
end Vb
namespace Vb
open PySem PySem.Spec PyProof.Rows L2
/-! ### an own class whose __iter__ hands on a tuple's iterator -/
/-- a heap with room up to n behind it: nothing more stands in it -/
def padB (b : Heap) (n : Nat) : Heap := { b with objs := b.objs ++ Array.replicate (n - b.objs.size) { cls := .none, data := .freed } }
theorem padB_get (b : Heap) (n : Nat) (a : Addr) : (padB b n).get? a = b.get? a := by
  unfold Heap.get? padB
  by_cases h : a < b.objs.size
  · simp only [Array.getElem?_append_left h]
  · have e : b.objs[a]? = none := Array.getElem?_eq_none (Nat.le_of_not_lt h)
    have e2 : (b.objs ++ Array.replicate (n - b.objs.size) ({ cls := .none, data := .freed } : Obj))[a]? = none ∨ (b.objs ++ Array.replicate (n - b.objs.size) ({ cls := .none, data := .freed } : Obj))[a]? = some { cls := .none, data := .freed } := by
      rw [Array.getElem?_append_right (Nat.le_of_not_lt h), Array.getElem?_replicate]
      split
      · exact .inr rfl
      · exact .inl rfl
    rcases e2 with e2 | e2 <;> simp only [e, e2]
theorem padB_size {b : Heap} {n : Nat} (h : b.objs.size ≤ n) : (padB b n).objs.size = n := by
  show (b.objs ++ Array.replicate (n - b.objs.size) _).size = n
  rw [Array.size_append, Array.size_replicate]
  omega
theorem padB_keep {b : Heap} {n : Nat} : ∀ a o, b.get? a = some o → (padB b n).get? a = some o := fun a o e => (padB_get b n a).trans e
theorem padB_mod {K : PySem.W.Frag} {mg : Str → Option Value} {b : Heap} {n : Nat} (m : Mod K mg b) : Mod K mg (padB b n) := by
  obtain ⟨mb, h1, h2⟩ := m.blt
  exact ⟨m.kin.keeps padB_keep, m.glob.keeps padB_keep, ⟨mb, h1.keeps padB_keep, h2⟩, m.nolimit.keeps padB_keep⟩
theorem padB_funs {b h : Heap} {n : Nat} : ∀ {l : List Env}, h.FunFrames b l → h.FunFrames (padB b n) l
  | [], q => q
  | e :: l, ⟨k, ⟨L, o, f, g, r⟩, q⟩ => ⟨k, ⟨L, o, f, (padB_get b n L).trans g, r⟩, padB_funs q⟩
theorem padB_env {P : Program} {w : World} {K : PySem.W.Frag} {mg : Str → Option Value} {base : Heap} {A : Around} {outer : List Env} {s : Shared} {H : Hp} (e : Env0 P w K mg base A outer s H) : Env0 P w K mg (padB base s.heap.objs.size) A outer s H :=
  ⟨e.frames, padB_mod e.mod, fun b o z => e.bs b o ((padB_get _ _ b).symm.trans z), by rw [padB_size e.bsz]; exact Nat.le_refl _, padB_funs e.funs, e.frf, e.hok, e.bare⟩
/-- at it an iterator over the tuple at t, the next place is i -/
def TiO (t it : Addr) (i : Nat) : HO := .ext fun h => h.IsTupleIter it t i
theorem tiO_ok {P : Program} {w : World} {H : Hp} {h : Heap} {t it : Addr} {i : Nat} (e : h.IsTupleIter it t i) : ObjOk P w H h it (TiO t it i) := ⟨e, e.elim fun o z => ⟨o, z.1⟩, fun _ _ q k => q.at (fun o z => k _ z)⟩
def rIterT (K : PySem.W.Frag) (n : Nat) : List V → Hp → VK → Prop := fun xs H Q => ∃ (t : Addr) (zs : List V), xs = [.ref t] ∧ SqT K H t zs ∧ ∀ it, H it = none → n ≤ it → Q (.ref it) (upd H it (TiO t it 0))
theorem call_iterT {X : Cx} : CallR X (.builtin "iter") (rIterT X.K X.base.objs.size) := by
  intro pins s σ H xs us Q I r h
  obtain ⟨t, zs, rfl, hq, q⟩ := h
  obtain rfl := Vals.ref1 r
  obtain ⟨its, rv, pt, hz⟩ := I.tuple hq
  refine Calls.call_function_entry (by decide +kernel) (by decide +kernel) PySem.W.kdk_entry_iter (PySem.W.kdk_args_iter _) ?_
  unfold Builtin.«iter»
  refine wpAny_bind (m := someArgs "iter" 1 2 _) (wpAny_of_eq (a := [Value.ref t]) (by first | rfl | kernel_rfl!) ?_)
  show wpAny _ _ (pyIter (.ref t) >>= _) _ _ _
  refine wpAny_bind (wpAny_pyIter_tuple (show s.heap.IsTuple t its.toArray from pt) (wpAny_pure ⟨_, rfl, ?_⟩))
  have z : (s.heap.push { cls := .type "tuple_iterator", data := .fields #[.ref t, .int 0 0] }).IsTupleIter s.heap.objs.size t 0 := ⟨_, Heap.get?_push_size _ rfl, rfl, rfl⟩
  exact ⟨.ref s.heap.objs.size, _, I.laid (t' := s.toks) (fun b u e => Heap.get?_push_of_some _ e) (Nat.le_refl _) (tiO_ok z), rfl, q _ (I.hok.fresh (Nat.le_refl _)) (Nat.le_trans I.ok.bsz I.sz)⟩
/-- what such an __iter__ promises, its attribute told -/
def sp_iter (K : PySem.W.Frag) (C : Addr) (at_ : Str) (n : Nat) : Sp := fun vs H Q _ => ∃ (a dx t : Addr) (fs : List (Str × V)) (zs : List V), vs = [.ref a] ∧ H a = some (.ins C dx fs) ∧ fs.lookup at_ = some (.ref t) ∧ SqT K H t zs ∧
  ∀ it, H it = none → n ≤ it → Q (.ref it) (upd H it (TiO t it 0))
section
variable {X : Cx} {k : Nat} {f C : Addr} {fd : FuncData} {ps : List Str} {at_ : Str} {tg e : Expr} {te : TE}
/-- __iter__ is called: behind it its iterator stands, younger than the call -/
theorem own_pyIter {pins : List (Addr × Obj)} {s : Shared} {σ : L2.St} {H : Hp} {a dx t : Addr} {fs : List (Str × V)} {zs : List V} {A1 : Around} {Q E : Value → Shared → Prop} (hs : PySem.W.findIn X.K (.ref C) "__iter__" = some (some (.ref f))) (hf : PySem.W.isFn X.K (.ref f) = true)
    (F : ∀ b : Heap, FnOk X.prog X.w X.K X.mg b (L2N.CX X.prog X.w) k f fd ps (sp_iter X.K C at_ b.objs.size)) (sb : Sub X k A1) (hb : Binds X.K fd ps []) (I : Inv X pins σ H s) (ha : H a = some (.ins C dx fs)) (hl : fs.lookup at_ = some (.ref t)) (ht : SqT X.K H t zs)
    (herr : ∀ e s', X.xe e s' → E e s') (hq : ∀ it s', Inv X pins σ (upd H it (TiO t it 0)) s' → H it = none → s.heap.objs.size ≤ it → Q (.ref it) s') : wpAny (model X.prog X.w) A1 (pyIter (.ref a)) Q E s := by
  obtain ⟨mA, J, _⟩ := ins_get I.hok ha
  obtain ⟨od, J, _⟩ := J.look
  obtain ⟨m0, hF⟩ := I.fr
  refine PySem.W.owit_iter hF I.ok.mod.kin J hs hf ?_
  have e0 : Env0 X.prog X.w X.K X.mg (padB X.base s.heap.objs.size) A1 X.stack s H := by
    have e := I.env0
    refine padB_env ⟨?_, e.mod, e.bs, e.bsz, e.funs, e.frf, e.hok, e.bare⟩
    rw [sb.fr]
    exact e.frames
  have r2 : Vals [V.ref a] [Value.ref a] := .cons rfl .nil
  have hsp : sp_iter X.K C at_ (padB X.base s.heap.objs.size).objs.size [.ref a] H (fun v H' => ∃ it, v = .ref it ∧ H' = upd H it (TiO t it 0) ∧ H it = none ∧ s.heap.objs.size ≤ it) E0 :=
    ⟨a, dx, t, fs, zs, rfl, ha, hl, ht, fun it n1 n2 => ⟨it, rfl, rfl, n1, by rw [padB_size (Nat.le_trans I.ok.bsz I.sz)] at n2; exact n2⟩⟩
  have hlen := (F _).len _ _ _ _ hsp
  refine wpAny_call (codeAny_mono ((F _).run A1 X.stack s H ⟨[.ref a], []⟩ [.ref a] [.ref a] _ E0 sb.room e0 (by
    have z := hb s [.ref a] I.kIn (by simpa using hlen)
    simpa using z) r2 hsp) fun r s' hq' => ?_)
  cases r with
  | error e => exact herr e s' (pass5 (X := X) pins σ H s e s' I hq')
  | ok fl =>
    cases fl with
    | next => exact False.elim hq'
    | brk => exact False.elim hq'
    | cont => exact False.elim hq'
    | ret u =>
      obtain ⟨v, H', I', rv, it, ev, eH, n1, n2⟩ := I.after hq'
      subst ev
      subst eH
      cases rv
      have st : s'.heap.IsTupleIter it t 0 := (I'.hok it _ upd_same).1
      unfold PySem.W.OwitIt
      exact wpAny_specialOf (name := "__next__") st.typeIs PySem.F.slot_tuple_iterator_next.lookup (hq it s' I' n1 n2)
end
end Vb
namespace Vb
open PySem PySem.Spec PyProof.Rows L2
section
variable {X : Cx} {k : Nat} {f C : Addr} {fd : FuncData} {ps : List Str} {at_ : Str} {tg e : Expr} {te : TE}
/-- a walk over such an object -/
def iOwn (K : PySem.W.Frag) (C : Addr) (at_ : Str) (te : TE) : TI := fun σ H R => te σ H fun x H1 => ∃ (a dx t : Addr) (fs : List (Str × V)) (zs : List V), x = .ref a ∧ H1 a = some (.ins C dx fs) ∧ fs.lookup at_ = some (.ref t) ∧ SqT K H1 t zs ∧ R (Itt K t) H1
theorem pi_own (hs : PySem.W.findIn X.K (.ref C) "__iter__" = some (some (.ref f))) (hf : PySem.W.isFn X.K (.ref f) = true) (F : ∀ b : Heap, FnOk X.prog X.w X.K X.mg b (L2N.CX X.prog X.w) k f fd ps (sp_iter X.K C at_ b.objs.size)) (hr : Room k X.A) (hb : Binds X.K fd ps []) (he : PE X e te) : PI X tg e (iOwn X.K C at_ te) := by
  refine ⟨fun pins s σ H R I h => ?_⟩
  refine thn (he.run pins s σ H _ I h) fun v s1 z => ?_
  obtain ⟨x, H1, I1, r1, a, dx, t, fs, zs, ex, ha, hl, ht, q⟩ := z
  subst ex
  obtain rfl : v = Value.ref a := r1
  refine own_pyIter hs hf F ⟨hr, rfl⟩ hb I1 ha hl ht (fun _ _ z => z) fun it s2 I2 n1 n2 => ?_
  have st : s2.heap.IsTupleIter it t 0 := (I2.hok it _ upd_same).1
  have I3 := ItX.inv_drop I2 (show upd H1 it (TiO t it 0) it = some (.ext _) from upd_same)
  have fp := ItX.inv_fp I2 (u := TiO t it 0) upd_same (Nat.le_trans I1.sz n2)
  rw [ItX.dropH_upd n1] at I3 fp
  refine ⟨it, [it], _, _, H1, rfl, I3, turn_tuple t it, st, fun b hb => ?_, q⟩
  obtain rfl := List.mem_singleton.mp hb
  exact fp
theorem r_iOwn {K : PySem.W.Frag} {σ : L2.St} {H : Hp} {R : It → Hp → Prop} (h : te σ H fun x H1 => ∃ (a dx t : Addr) (fs : List (Str × V)) (zs : List V), x = .ref a ∧ H1 a = some (.ins C dx fs) ∧ fs.lookup at_ = some (.ref t) ∧ SqT K H1 t zs ∧ R (Itt K t) H1) : iOwn K C at_ te σ H R := h
/-- the list at q is filled by the iterator at it -/
theorem ti_loop {pins : List (Addr × Obj)} {σ : L2.St} {H : Hp} {t it q : Addr} {zs : List V} {A1 : Around} {Rs : Result → Shared → Prop} (hA : A1.in1.handled = none) (hn : H it = none) (hq0 : H q = none) (ne : q ≠ it) (hit : X.s_0.heap.objs.size ≤ it) (ht : SqT X.K H t zs) (hz : zs.length ≤ 1000000)
    (herr : ∀ e s, X.xe e s → Rs (.error e) s) (hdone : ∀ s, Inv X pins σ (upd H q (.lst zs)) s → Rs (.ok (.ret .none)) s) :
    ∀ (m i : Nat) (Hs : Hp) (s : Shared), m = zs.length - i → i ≤ zs.length → Hs q = some (.lst (zs.take i)) → Hs it = some (TiO t it i) → (∀ b, b ≠ q → b ≠ it → Hs b = H b) → Inv X pins σ Hs s → codeAny (model X.prog X.w) A1 (.builtin "list.extend.loop" ⟨[.ref q, .ref it, .none], []⟩) Rs s := by
  intro m
  induction m with
  | zero =>
    intro i Hs s hm hi e1 e2 e3 I
    obtain rfl : i = zs.length := by omega
    have st : s.heap.IsTupleIter it t zs.length := (I.hok it _ e2).1
    have sm : Same H Hs := fun b o hb => (e3 b (fun z => by rw [z, hq0] at hb; cases hb) (fun z => by rw [z, hn] at hb; cases hb)).trans hb
    obtain ⟨its, rv, pt, _⟩ := I.tuple (same_sqt sm ht)
    have hl := rv.length
    have I1 := ItX.inv_drop I (show Hs it = some (.ext _) from e2)
    have fp := ItX.inv_fp I e2 hit
    have eH : ItX.dropH Hs it = upd H q (.lst zs) := by
      funext b
      by_cases hb : b = it
      · rw [hb, ItX.dropH_same, upd_ne (Ne.symm ne), hn]
      · rw [ItX.dropH_ne hb]
        by_cases hc : b = q
        · rw [hc, upd_same, e1, List.take_length]
        · rw [upd_ne hc, e3 b hc hb]
    rw [eH] at I1 fp
    obtain ⟨f0, f1, f2, f3, f4, f5⟩ := fp
    refine codeAny_builtin PySem.F.entry_extend_loop ?_
    rw [Around.under_plainId PySem.F.plain_extend_loop _]
    show wpAny _ A1.in1 (pyNext (.ref it) >>= _) _ _ s
    refine wpAny_bind (wpAny_pyNext_tuple_end hA st (show s.heap.IsTuple t its.toArray from pt) (by simp; omega) fun h' eb => wpAny_pure (hdone _ (I1.turned (t' := s.toks) (fun b o hb z => eb b o hb z) f0 f1 f3 f4 f5)))
  | succ m ih =>
    intro i Hs s hm hi e1 e2 e3 I
    have st : s.heap.IsTupleIter it t i := (I.hok it _ e2).1
    have sm : Same H Hs := fun b o hb => (e3 b (fun z => by rw [z, hq0] at hb; cases hb) (fun z => by rw [z, hn] at hb; cases hb)).trans hb
    obtain ⟨its, rv, pt, _⟩ := I.tuple (same_sqt sm ht)
    have hl := rv.length
    obtain ⟨u, hu, ru⟩ := rv.get (List.getElem?_eq_getElem (by omega : i < zs.length))
    refine codeAny_builtin PySem.F.entry_extend_loop ?_
    rw [Around.under_plainId PySem.F.plain_extend_loop _]
    show wpAny _ A1.in1 (pyNext (.ref it) >>= _) _ _ s
    refine wpAny_bind (wpAny_pyNext_tuple_item st (show s.heap.IsTuple t its.toArray from pt) (x := u) (by simpa using hu) fun h' st' sb => ?_)
    have I1 : Inv X pins σ (upd Hs it (TiO t it (i + 1))) { s with heap := h' } := I.write (x := it) (e := it) (t' := s.toks) (by rw [e2]; exact True.intro) (.inl rfl) (fun b o nb z => (sb.2 b nb).trans z) (st'.elim fun o z => ⟨o, z.1⟩) (tiO_ok st')
    have e1' : upd Hs it (TiO t it (i + 1)) q = some (.lst (zs.take i)) := by rw [upd_ne ne]; exact e1
    show wpAny _ A1.in1 (updateSeq q (·.push u) >>= _) _ _ _
    obtain ⟨z, its2, k2, r2, hl2, ee⟩ := I1.lstM e1'
    have hts : (zs.take i).length = i := by rw [List.length_take]; omega
    refine wpAny_bind (wpAny_updateSeq ee rfl (wpAny_pure ⟨plainId_quiet PySem.F.plain_extend_loop _, ?_⟩) (by rw [List.size_toArray, sizeLine_eq]; omega) (by show (its2.toArray.push u).size ≤ sizeLine + 1; rw [Array.size_push, List.size_toArray, sizeLine_eq]; omega))
    have et : zs.take (i + 1) = zs.take i ++ [zs[i]] := by rw [List.take_add_one, List.getElem?_eq_getElem (by omega : i < zs.length)]; rfl
    refine ih (i + 1) (upd (upd Hs it (TiO t it (i + 1))) q (.lst (zs.take (i + 1)))) _ (by omega) (by omega) upd_same (by rw [upd_ne (Ne.symm ne), upd_same]) (fun b h1 h2 => by rw [upd_ne h1, upd_ne h2, e3 b h1 h2]) ?_
    exact I1.lset (its' := its2 ++ [u]) (t' := s.toks) e1' ee (by simp) (by rw [et]; exact r2.append (.cons ru .nil)) (by rw [List.length_take, sizeLine_eq]; omega)
/-- list(o) -/
def rListOwn (K : PySem.W.Frag) (C : Addr) (at_ : Str) : List V → Hp → VK → Prop := fun xs H Q => ∃ (a dx t : Addr) (fs : List (Str × V)) (zs : List V), xs = [.ref a] ∧ H a = some (.ins C dx fs) ∧ fs.lookup at_ = some (.ref t) ∧ SqT K H t zs ∧ zs.length ≤ 1000000 ∧ ∀ q, H q = none → Q (.ref q) (upd H q (.lst zs))
theorem call_listIt (hc : X.calm = true) (hs : PySem.W.findIn X.K (.ref C) "__iter__" = some (some (.ref f))) (hf : PySem.W.isFn X.K (.ref f) = true) (hnl : PySem.W.findIn X.K (.ref C) "__len__" = some none) (hnh : PySem.W.findIn X.K (.ref C) "__length_hint__" = some none)
    (F : ∀ b : Heap, FnOk X.prog X.w X.K X.mg b (L2N.CX X.prog X.w) k f fd ps (sp_iter X.K C at_ b.objs.size)) (hr : Room (k + 2) X.A) (hb : Binds X.K fd ps []) : CallR X (.type "list") (rListOwn X.K C at_) := by
  intro pins s σ H xs us Q I rv h
  obtain ⟨a, dx, t, fs, zs, rfl, ha, hl, ht, hz, hq⟩ := h
  obtain ⟨u, rfl, ru⟩ := rv.one
  cases ru
  have sb : Sub X k X.A.in1.in1 := Sub.in1 (Sub.in1 (show Sub X (k + 2) X.A from ⟨hr, rfl⟩))
  let O : Obj := { cls := .type "list", data := .seq #[] }
  refine callType_codes (Q₁ := fun ob s1 => ob = .ref s.heap.objs.size ∧ s1 = { s with heap := s.heap.push O }) PySem.F.called_list
    (PySem.F.typeCall_list_1 _) PySem.F.entry_list_init (code_list_new _ ⟨rfl, rfl⟩) fun ob s1 hob => ?_
  obtain ⟨rfl, rfl⟩ := hob
  have hS : (s.heap.push O).get? s.heap.objs.size = some O := Heap.get?_push_size _ rfl
  refine ⟨⟨_, hS, rfl⟩, PySem.F.args_list_init_2 _ _, ?_⟩
  have fr : H s.heap.objs.size = none := I.hok.fresh (Nat.le_refl _)
  have I1 : Inv X pins σ (upd H s.heap.objs.size (.lst [])) { s with heap := s.heap.push O } := I.lnew (its := []) (t' := s.toks) .nil (Nat.zero_le _)
  show wpAny _ _ (do let old ← Builtin.List.listItems (.ref s.heap.objs.size); Builtin.List.listUpdate (.ref s.heap.objs.size) (fun _ => #[])
                     letGo old.toList.reverse; Builtin.List.listExtendWith (.ref s.heap.objs.size) (.ref a) .none) _ _ _
  refine wpAny_bind ?_
  unfold Builtin.List.listItems
  refine wpAny_bind (wpAny_seqItems hS rfl (wpAny_pure ?_))
  show wpAny _ _ (updateSeq s.heap.objs.size (fun _ => #[]) >>= fun _ => letGo (#[] : Array Value).toList.reverse >>= fun _ =>
    Builtin.List.listExtendWith (.ref s.heap.objs.size) (.ref a) .none) _ _ _
  refine wpAny_bind (wpAny_updateSeq hS rfl ?_)
  have I2 := I1.lset (f := fun _ => #[]) (its := []) (its' := []) (ys := []) (t' := s.toks) upd_same hS rfl .nil (Nat.zero_le _)
  rw [upd_upd] at I2
  refine wpAny_bind (wpAny_letGo ?_)
  have ha2 : upd H s.heap.objs.size (.lst []) a = some (.ins C dx fs) := h_new fr ha
  have hne : s.heap.objs.size ≠ a := fun z => by rw [← z, fr] at ha; cases ha
  have ht2 := same_sqt (same_new (o := HO.lst []) fr) ht
  -- the walk's start
  obtain ⟨mA, J, _⟩ := ins_get I2.hok ha2
  obtain ⟨od, J, _⟩ := J.look
  unfold Builtin.List.listExtendWith
  refine wpAny_bind (J.type.here ?_)
  have n1 : Builtin.List.listSameRef (.ref s.heap.objs.size) (.ref a) = false := by simp [Builtin.List.listSameRef, hne]
  have n2 : (Value.ref C == Value.type "list") = false := rfl
  have n3 : (Value.ref C == Value.type "tuple") = false := rfl
  simp only [n1, n2, n3, Bool.or_false, Bool.false_eq_true, if_false]
  have hs2 : s.heap.objs.size < (s.heap.push O).objs.size := by rw [Heap.size_push]; exact Nat.lt_succ_self _
  refine wpAny_bind (own_pyIter hs hf F sb hb I2 ha2 hl ht2 (fun e s' z => z) fun it s' I3 m1 m2 => ?_)
  have nq : s.heap.objs.size ≠ it := fun z => by rw [← z, upd_same] at m1; cases m1
  have hn : H it = none := by rw [upd_ne (Ne.symm nq)] at m1; exact m1
  have young : X.s_0.heap.objs.size ≤ it := Nat.le_trans I2.sz m2
  have ha3 : upd (upd H s.heap.objs.size (.lst [])) it (TiO t it 0) a = some (.ins C dx fs) := h_new m1 ha2
  obtain ⟨mA', J', _⟩ := ins_get I3.hok ha3
  obtain ⟨od', J', _⟩ := J'.look
  have fin : ∀ s4, Inv X pins σ (upd (upd H s.heap.objs.size (.lst [])) it (TiO t it 0)) s4 → codeAny (model X.prog X.w) X.A.in1 (.builtin "list.extend.loop" ⟨[.ref s.heap.objs.size, .ref it, .none], []⟩)
      (wants (fun r s2 => r = .none ∧ EP X pins σ Q (.ref s.heap.objs.size) s2) X.xe) s4 := fun s4 I4 =>
    ti_loop (A1 := X.A.in1) (zs := zs) (I4.ok.hd hc) hn fr nq young ht hz (fun e s5 z => z) (fun s5 I5 => ⟨rfl, .ref s.heap.objs.size, _, I5, rfl, hq _ fr⟩) zs.length 0 _ s4 (by omega) (by omega)
      (by rw [upd_ne nq, upd_same]; rfl) upd_same (fun b h1 h2 => by rw [upd_ne h2, upd_ne h1]) I4
  refine wpAny_bind (wpAny_holding ?_)
  unfold Builtin.List.listLengthHint
  refine wpAny_bind (wpAny_bind (J'.type.here ((PySem.W.looks_findIn I3.kIn hnl).here ?_)))
  refine PySem.W.KFB.if_not rfl (PySem.W.KFB.if_not rfl ?_)
  refine wpAny_bind (wpAny_bind (J'.type.here ((PySem.W.looks_findIn I3.kIn hnh).here ?_)))
  refine wpAny_pure ?_
  obtain ⟨z, its, k0, r3, hl3, e3⟩ := I3.lstM (xs := []) (l := s.heap.objs.size) (by rw [upd_ne nq, upd_same])
  cases r3
  refine wpAny_ite_split (fun _ => ?_) (fun _ => wpAny_pure ⟨plainId_quiet PySem.F.plain_extend_loop _, fin s' I3⟩)
  refine wpAny_bind (wpAny_rule (wpAny_bind ?_))
  show wpAny _ _ (updateSeq s.heap.objs.size (·.push .none) >>= fun _ => updateSeq s.heap.objs.size (·.pop)) _ _ _
  refine wpAny_bind (wpAny_updateSeq e3 rfl ?_)
  have eQ : upd (upd H s.heap.objs.size (.lst [])) it (TiO t it 0) s.heap.objs.size = some (.lst []) := by rw [upd_ne nq, upd_same]
  have I4 := I3.lset (f := (·.push Value.none)) (its' := [Value.none]) (ys := [.non]) (t' := s'.toks) eQ e3 (by simp) (.cons rfl .nil) (by rw [List.length_singleton, sizeLine_eq]; decide)
  obtain ⟨z4, its4, k4, r4, hl4, e4⟩ := I4.lstM upd_same
  obtain ⟨u4, rfl, ru4⟩ := r4.one
  refine wpAny_updateSeq e4 rfl (wpAny_pure ⟨plainId_quiet PySem.F.plain_extend_loop _, fin _ ?_⟩) (by show 1 ≤ sizeLine; rw [sizeLine_eq]; decide) (by show 0 ≤ sizeLine + 1; exact Nat.zero_le _)
  have I5 := I4.lset (f := (·.pop)) (its := [u4]) (its' := []) (ys := []) (t' := s'.toks) upd_same e4 (by rfl) .nil (Nat.zero_le _)
  rw [upd_upd] at I5
  have hH : ∀ G : Hp, G s.heap.objs.size = some (.lst []) → upd G s.heap.objs.size (.lst []) = G := fun G hG => by
    funext b
    by_cases hb : b = s.heap.objs.size
    · rw [hb, upd_same, hG]
    · rw [upd_ne hb]
  rw [hH _ eQ] at I5
  exact I5
end
end Vb
namespace Vb
open PySem PySem.Spec PyProof.Rows L2
theorem prop_mk {K : PySem.W.Frag} {C : Addr} {f : Str} {p g : Addr} {rest : List Value} (a : PySem.W.findIn K (.ref C) f = some (some (.ref p))) (b : PySem.W.specialIn K (.ref p) "__get__" = some (some (.builtin "property.__get__"))) (c : PySem.W.takesIn K (.ref p) = some true)
    (d : PySem.W.recIn K p "property" = some (.ref g :: rest)) : PropOf K C f p g := ⟨a, b, c, rest, d⟩
end Vb
namespace Vb
open PySem PySem.Spec PyProof.Rows L2
/-! ### len(set(xs)), xs a list or a tuple of any ints -/
/-- as many different ones as there are, or fewer -/
theorem card_le : ∀ {ns ks : List Int}, ks.Nodup → (∀ k, k ∈ ks ↔ k ∈ ns) → ks.length ≤ ns.length ∧ (ks.length = ns.length → ns.Nodup)
  | [], ks, _, h => by
    have : ks = [] := List.eq_nil_iff_forall_not_mem.mpr fun k m => by have := (h k).mp m; cases this
    rw [this]
    exact ⟨Nat.le_refl _, fun _ => List.nodup_nil⟩
  | x :: ns, ks, nd, h => by
    by_cases c : x ∈ ns
    · have ⟨a, b⟩ := card_le (ns := ns) nd fun k => (h k).trans ⟨fun m => by
        rcases List.mem_cons.mp m with rfl | m
        · exact c
        · exact m, fun m => List.mem_cons_of_mem _ m⟩
      exact ⟨Nat.le_succ_of_le a, fun e => by rw [List.length_cons] at e; omega⟩
    · have xk : x ∈ ks := (h x).mpr (List.mem_cons_self ..)
      have le := List.length_erase_of_mem xk
      have pos : 0 < ks.length := List.length_pos_of_mem xk
      have ⟨a, b⟩ := card_le (ns := ns) (nd.erase x) fun k => by
        rw [nd.mem_erase_iff, h k, List.mem_cons]
        exact ⟨fun m => m.2.resolve_left m.1, fun m => ⟨fun e => c (e ▸ m), .inr m⟩⟩
      refine ⟨by rw [List.length_cons]; omega, fun e => List.nodup_cons.mpr ⟨c, b (by rw [List.length_cons] at e; omega)⟩⟩
theorem card_nodup {ns ks : List Int} (nd : ks.Nodup) (h : ∀ k, k ∈ ks ↔ k ∈ ns) (n2 : ns.Nodup) : ks.length = ns.length :=
  Nat.le_antisymm (card_le nd h).1 (card_le n2 fun k => (h k).symm).1
theorem firstMet_facts (ns : List Int) : ∀ i, i ≤ ns.length → (PyProof.Rows.firstMet (fun i => ns.getD i 0) i).Nodup ∧ ∀ k, k ∈ PyProof.Rows.firstMet (fun i => ns.getD i 0) i ↔ k ∈ ns.take i
  | 0, _ => ⟨List.nodup_nil, fun k => Iff.rfl⟩
  | i + 1, hi => by
    have hlt : i < ns.length := hi
    have ⟨a, b⟩ := firstMet_facts ns i (Nat.le_of_lt hlt)
    have e1 : ns.getD i 0 = ns[i] := by rw [List.getD_eq_getElem?_getD, List.getElem?_eq_getElem hlt]; rfl
    have e2 : ns.take (i + 1) = ns.take i ++ [ns[i]] := by rw [List.take_add_one, List.getElem?_eq_getElem hlt]; rfl
    rw [PyProof.Rows.firstMet_succ, e1, e2]
    generalize PyProof.Rows.firstMet (fun i => ns.getD i 0) i = l at a b
    show (if l.any (· == ns[i]) = true then l else l ++ [ns[i]]).Nodup ∧ _
    have se : PyProof.Rows.step_dedup l ns[i] = if l.any (· == ns[i]) = true then l else l ++ [ns[i]] := rfl
    rw [se]
    split
    · rename_i c
      obtain ⟨y, hy, ey⟩ := List.any_eq_true.mp c
      have ey : y = ns[i] := eq_of_beq ey
      refine ⟨a, fun k => (b k).trans ⟨fun m => List.mem_append_left _ m, fun m => ?_⟩⟩
      rcases List.mem_append.mp m with m | m
      · exact m
      · rw [List.mem_singleton.mp m, ← ey]
        exact (b y).mp hy
    · rename_i c
      have no : ns[i] ∉ l := fun m => c (List.any_eq_true.mpr ⟨_, m, beq_self_eq_true _⟩)
      refine ⟨List.nodup_append.mpr ⟨a, List.pairwise_singleton _ _, fun x hx y hy e => ?_⟩, fun k => ?_⟩
      · rw [List.mem_singleton.mp hy] at e
        exact no (e ▸ hx)
      · rw [List.mem_append, List.mem_append, b k]
theorem intsAre_vals : ∀ {ns : List Int} {us : List Value}, Vals (ns.map V.int) us → PyProof.Rows.IntsAre us ns
  | [], _, .nil => .nil
  | n :: ns, _, .cons r t => by
    obtain ⟨k, rfl⟩ := r
    exact .cons n k (intsAre_vals t)
def tLenSetA (K : PySem.W.Frag) (ta : TE) : TE := fun σ H Q => ta σ H fun x H1 => ∃ (l : Addr) (ns : List Int), x = .ref l ∧ SqA K H1 l (ns.map V.int) ∧ ns.length ≤ 1000 ∧ ∀ c : Nat, (ns.Nodup → c = ns.length) → (¬ ns.Nodup → c < ns.length) → Q (.int (c : Nat)) H1
theorem pe_lenSetA {X : Cx} {a : Expr} {ta : TE} {p p2 q pos : Pos} (hg : Gl X "len") (hm : X.mg "len" = none) (hg2 : Gl X "set") (hm2 : X.mg "set" = none) (ha : PE X a ta) (hc : X.calm = true := by rfl)
    (na : starEach [a] X.env = (false, eval a X.env) :: starEach [] X.env := by rfl) : PE X (.Call (.Name "len" p) [.Call (.Name "set" p2) [a] [] q] [] pos) (tLenSetA X.K ta) := by
  refine ⟨fun pins s σ H Q I h => ?_⟩
  refine Call_ (ld_blt I hg hm PySem.boot_len ?_)
  refine PyProof.Rows.callWith_builtin1 (PyProof.Rows.args_cons ?_ rfl) rfl rfl
  refine Call_ (ld_blt I hg2 hm2 PyProof.Rows.boot_set ?_)
  refine PyProof.Rows.callWith_type1 (PyProof.Rows.args_cons (thn (ha.run pins s σ H _ I h) fun v s1 ⟨x, H1, I1, r1, q1⟩ => PyProof.Rows.args_nil ?_) na) na rfl
  obtain ⟨l, ns, rfl, hq, hl, q1⟩ := q1
  cases r1
  have fin : ∀ ks : List Int, ks.Nodup → (∀ k, k ∈ ks ↔ k ∈ ns) → Q (.int (ks.length : Nat)) H1 := fun ks nd h => by
    refine q1 _ (card_nodup nd h) fun n => ?_
    have ⟨a, b⟩ := card_le nd h
    rcases Nat.lt_or_ge ks.length ns.length with z | z
    · exact z
    · exact absurd (b (Nat.le_antisymm a z)) n
  rcases hq with hq | hq
  · obtain ⟨its, r, pl, hz⟩ := I1.list hq
    have hlen : its.toArray.size = ns.length := by rw [List.size_toArray, ← r.length, List.length_map]
    refine call_set_list (I1.ok.hd hc) pl.isList (by simpa using intsAre_vals r) (by rw [hlen]; unfold scanBound; omega) fun h' tk hS hk => ?_
    refine PyProof.Rows.args_nil ?_
    rw [hlen] at hS
    obtain ⟨f1, f2⟩ := firstMet_facts ns ns.length (Nat.le_refl _)
    rw [List.take_length] at f2
    have f3 := PyProof.Rows.firstMet_length_le (fun i => ns.getD i 0) ns.length
    obtain ⟨o, es, ep, t, ho, hex, hd, _, _, _, hf, hn⟩ := hS
    have I2 : Inv X pins σ H1 { s1 with heap := h', toks := tk } := I1.kept fun b o e => hk b o (Heap.lt_size e) e
    exact call_len_set ho hex hd hf (by rw [hn] <;> omega) ⟨.int _, H1, I2.tok _, ⟨_, by rw [hn]⟩, fin _ f1 f2⟩
  · obtain ⟨its, r, pt, hz⟩ := I1.tuple hq
    refine L2.call_set_tupI ns (I1.ok.hd hc) (show s1.heap.IsTuple l its.toArray from pt) (by simpa using intsAre_vals r) (by unfold scanBound; omega) fun h' tk c hS hcl hk => ?_
    refine PyProof.Rows.args_nil ?_
    obtain ⟨o, es, ep, t, ho, hex, hd, _, nd, hmem, _, hf, hn, _⟩ := hS
    have I2 : Inv X pins σ H1 { s1 with heap := h', toks := tk } := I1.kept fun b o e => hk b o e
    have kl : (es.toList.map L2.keyOf).length = es.size := by rw [List.length_map, Array.length_toList]
    refine call_len_set ho hex hd hf (by rw [hn] <;> omega) ⟨.int _, H1, I2.tok _, ⟨_, rfl⟩, ?_⟩
    rw [← kl]
    exact fin _ nd fun k => by rw [← hmem k, decide_eq_true_iff]
theorem r_lenSetA {K : PySem.W.Frag} {ta : TE} {σ : L2.St} {H : Hp} {Q : VK} (h : ta σ H fun x H1 => ∃ (l : Addr) (ns : List Int), x = .ref l ∧ SqA K H1 l (ns.map V.int) ∧ ns.length ≤ 1000 ∧ ∀ c : Nat, (ns.Nodup → c = ns.length) → (¬ ns.Nodup → c < ns.length) → Q (.int (c : Nat)) H1) : tLenSetA K ta σ H Q := h
end Vb
namespace Vb
open PySem PySem.Spec PyProof.Rows L2
/-! ### defs that are handed the error which is being handled -/
/-- a def called within an except suite; what it promises may speak of the error's object -/
structure FnE (P : Program) (w : World) (K : PySem.W.Frag) (mg : Str → Option Value) (base : Heap) (k : Nat) (f : Addr) (fd : FuncData) (ps : List Str) (sp : Addr → Value → Option Addr → Sp) : Prop where
  size : ∀ {a cls d vs H Q E}, sp a cls d vs H Q E → vs.length = ps.length
  go : ∀ {A : Around} {fr : List Env} {s : Shared} {H : Hp} {as : Args} {us : List Value} {vs : List V} {Q : VK} {E : XK} {e : Addr × Obj} {cls : Value} {d : Option Addr}, L2N.Zn cls d e.2 → (∃ vs, e.2.data = .fields vs) → L2H.RoomH k A → L2H.Hot1 A e → L2H.PinOk fr H s e → Env0 P w K mg base A fr s H → BindsTo s fd as (ps.zip us) → Vals vs us → sp e.1 cls d vs H Q E →
    codeAny (model P w) A (.call (.ref f) as) (CR CX0 fr P w H s Q E) s
theorem okE {P : Program} {w : World} {K : PySem.W.Frag} {mg : Str → Option Value} {base : Heap} {x qual : Str} {st : Stmt} {f : Addr} {fd : FuncData} {N ps : List Str} {k : Nat} {sp : Addr → Value → Option Addr → Sp} (F : Fun K x qual st f fd) (S : FnScope N ps (defScope st)) (size : ∀ {a cls d vs H Q E}, sp a cls d vs H Q E → vs.length = ps.length)
    (hbody : ∀ (cdv : Value) (A : Around) (fr : List Env) (s : Shared) (H : Hp) (vs : List V) (Q : VK) (E : XK) (e : Addr × Obj) (cls : Value) (d : Option Addr), L2N.Zn cls d e.2 → (∃ vs, e.2.data = .fields vs) → L2H.RoomH k (A.deeper (envOfC qual (defScope st) s.heap.objs.size f cdv)) → sp e.1 cls d vs H Q E →
      ∃ t, PSs (L2H.cxH CX0 P w K mg base N qual (defScope st) f cdv A fr s H E e) (defBody st) t ∧ t (Ends.mk (fun _ H' => Q .non H') Q (fun _ _ => False) (fun _ _ => False)) (start N vs) H) : FnE P w K mg base (k + 1) f fd ps sp := by
  obtain ⟨oc, od, kV, doc, pm, an, cdv, ct, osl, rfl, lk, hcd⟩ := F.ex
  constructor
  · exact size
  intro A fr s H as us vs Q E e cls d hz hf room hot pin e0 bind vals hsp
  have KI : K.In s.heap := e0.mod.kin.keeps fun b o z => (e0.bs b o z).1
  have nolim : s.heap.NoLimit := e0.mod.nolimit.keeps fun b o z => (e0.bs b o z).1
  refine codeAny_call_function room.depth (KI _ _ lk) rfl S.co S.gen rfl (PySem.W.codeRec_of KI hcd) (bind _ _ _ _ ?_)
  refine wpAny_newFunctionEnv_cells S.kind ?kinds fun env ee s1 inside => ?body
  case kinds =>
    intro y hy
    obtain q | q := S.par y.1 (List.of_mem_zip (a := y.1) (b := y.2) hy).1
    · exact Or.inl q
    · exact Or.inr ⟨q, PySem.W.cellsFrom_some _ _ _ (Or.inl q)⟩
  case body =>
    subst ee
    refine ⟨nolim.keeps inside.toInCall.keep, codeAny_func ?_⟩
    obtain ⟨t, ht, hq⟩ := hbody cdv A fr s H vs Q E e cls d hz hf (room.deeper _) hsp
    have I := L2H.inv_startH (CX := CX0) (qual := qual) (f := f) (cd := cdv) (E := E) S pin e0 (size hsp) vals inside
    have leave : ∀ {σ' : L2.St} {H' : Hp} {s' : Shared} {v : V} {u : Value}, Inv (L2H.cxH CX0 P w K mg base N qual (defScope st) f cdv A fr s H E e) [] σ' H' s' → RelV v u → Q v H' → CE fr P w H s Q u s' := fun J r q => ⟨_, _, J.os, J.bare, J.base, J.hok, r, q⟩
    refine wpAny_mono (ht.run [] s1 (start N vs) H _ I hq) (fun fl s' z => ?_) fun _ _ z => z
    match fl, z with
    | .ret u, z => exact z.elim fun v z => z.elim fun σ' z => z.elim fun H' z => leave z.1 z.2.1 z.2.2
    | .next, z => exact z.elim fun σ' z => z.elim fun H' z => leave (v := V.non) (u := Value.none) z.1 rfl z.2
    | .brk, z => exact z.elim fun _ z => z.elim fun _ z => z.2.elim
    | .cont, z => exact z.elim fun _ z => z.elim fun _ z => z.2.elim
section
variable {X : Cx} {k : Nat} {f a : Addr} {oe : Obj} {fd : FuncData} {ps : List Str} {sp : Addr → Value → Option Addr → Sp} {x : Str} {q pos : Pos} {e : Expr} {es : List Expr} {t : TA} {cls : Value} {d : Option Addr} {pn : List (Addr × Obj)}
/-- f(e, ..) in the suite that holds the error (a, oe) -/
theorem pe_callE (hz : L2N.Zn cls d oe) (hf : ∃ vs, oe.data = .fields vs) (F : FnE X.prog X.w X.K X.mg X.base k f fd ps sp) (hr : L2H.RoomH k (X.suite a ((a, oe) :: pn)).A) (hg : Gl (X.suite a ((a, oe) :: pn)) x) (hm : X.mg x = some (.ref f)) (hk : PySem.W.keepIn X.K (.ref f) = true) (hb : Binds X.K fd ps [])
    (ha : PA (X.suite a ((a, oe) :: pn)) (e :: es) t) (hdb : (x == ("__debug__" : Str)) = false := by decide) (he : starEach (e :: es) (X.suite a ((a, oe) :: pn)).env = (false, eval e (X.suite a ((a, oe) :: pn)).env) :: starEach es (X.suite a ((a, oe) :: pn)).env := by rfl) (hpl : (backTo pos (starEach es (X.suite a ((a, oe) :: pn)).env)).any (·.1) = false := by rfl) :
    PE (X.suite a ((a, oe) :: pn)) (.Call (.Name x q) (e :: es) [] pos) (tCallS (sp a cls d) (fun _ => E0) t) := by
  constructor
  intro pins s σ H Q I h
  refine wpAny_Call_Name_kw (ld_glob I hg (show (X.suite a ((a, oe) :: pn)).mg x = _ from hm) ?_ hdb)
  have done : ∀ us s1, (∃ vs H1, Inv (X.suite a ((a, oe) :: pn)) pins σ H1 s1 ∧ Vals vs us ∧ sp a cls d vs H1 Q E0) → wpAny (model X.prog X.w) (X.suite a ((a, oe) :: pn)).A (call (.ref f) us) (EP (X.suite a ((a, oe) :: pn)) pins σ Q) (X.suite a ((a, oe) :: pn)).xe s1 := by
    rintro us s1 ⟨vs, H1, I1, r, hsp⟩
    obtain ⟨dat, hd⟩ := hf
    have hot : L2H.Hot1 (X.suite a ((a, oe) :: pn)).A (a, oe) := ⟨rfl, dat, hd, hz.2.2 dat hd⟩
    have pinned := I1.pin (a, oe) (List.mem_append_left _ List.mem_cons_self)
    have lens : us.length = ps.length := r.length.symm.trans (F.size hsp)
    have bind := hb s1 us I1.kIn (by rw [List.append_nil]; exact lens)
    rw [List.append_nil] at bind
    have ok : L2H.PinOk (X.suite a ((a, oe) :: pn)).stack H1 s1 (a, oe) := ⟨pinned.1, pinned.2.1, fun hm => by
      obtain z | z := List.mem_cons.mp (I1.stkSub a hm)
      · exact pinned.2.2.1 z
      · exact pinned.2.2.2.1 z, pinned.2.2.2.2⟩
    refine wpAny_call (codeAny_mono (F.go (as := ⟨us, []⟩) (e := (a, oe)) hz ⟨dat, hd⟩ hr hot ok I1.env0 bind r hsp) fun res s2 z => ?_)
    match res, z with
    | .error _, z => exact (passH (σ := σ) pins H1 s1 _ s2 I1 z)
    | .ok (.ret _), z => exact I1.after z
    | .ok .next, z => exact z.elim
    | .ok .brk, z => exact z.elim
    | .ok .cont, z => exact z.elim
  exact PySem.W.callWith_K (h₀ := X.base) I.ok.mod.kin hk (thn (ha.run pos pins s σ H _ I h) fun us s1 z => by
    obtain ⟨vs, H1, I1, r, hsp⟩ := z
    exact ⟨I1.kIn, done us s1 ⟨vs, H1, I1, r, hsp⟩⟩) he hpl
/-- isinstance(e, c), e the error that was handed in -/
theorem call_isP {X : Cx} {a D : Addr} {oe : Obj} {cls : Value} {d : Option Addr} (pin : (a, oe) ∈ X.pn) (C : Xk X.K D) (hz : L2N.Zn cls d oe) (hf : ∃ vs, oe.data = .fields vs) : CallR X (.builtin "isinstance") (rIsX X.K D a cls d) := by
  intro pins s σ H xs us Q I r h
  obtain ⟨c, cv, b, rfl, ec, hcv, e, hd, q⟩ := h
  obtain ⟨u1, u2, rfl, r1, r2⟩ := vals2 r
  cases (show u1 = Value.ref a from r1)
  have e2 := hcv _ r2
  subst e2
  have hget := (I.pin (a, oe) (List.mem_append.mpr (.inl pin))).1
  obtain ⟨vs, hv⟩ := hf
  have noc : PySem.W.notCls oe = true := by unfold PySem.W.notCls; rw [hv]
  have J : ∃ od, PySem.W.InstAt s.heap a oe D od := by
    rcases hd with hd | ⟨dd, fs, hd, ho⟩
    · refine ⟨none, hget, hz.1.trans ec, noc, ?_⟩
      rw [hz.2.1, hd]
      trivial
    · have hx : ObjOk X.prog X.w H s.heap dd (.xd fs) := I.hok dd _ ho
      obtain ⟨mA, hns, _⟩ := hx
      obtain ⟨od, ho, _⟩ := lookIn_ns hns
      refine ⟨some od, hget, hz.1.trans ec, noc, ?_⟩
      rw [hz.2.1, hd]
      exact ho
  obtain ⟨od, J⟩ := J
  exact PySem.W.kia_one (PySem.W.kitx_exc C.cl C.ga C.gg C.sb C.ca C.sp C.tk C.mo) I.kIn J e (fun z => nomatch z) fun tk => ⟨.bl b, H, I.kept (t' := tk) fun _ _ z => z, rfl, q⟩
end
end Vb
namespace Vb
open PySem PySem.Spec PyProof.Rows L2
section
variable {K : PySem.W.Frag} {σ : L2.St} {H : Hp} {nx bk ct : L2.St → Hp → Prop} {rt : VK}
/-- into an except suite of a class above -/
theorem r_asS {C D : Addr} {d : Option Addr} {i : Nat} {ts : Addr → Value → Option Addr → TS} {Wo : WX} (k : Xk K C) (s : PySem.W.subIn K (.ref D) (.ref C) = some true) (h : ∀ a, H a = none → ts a (.ref D) d (Ends.mk (fun σ' H' => nx (σ'.set i none) H') rt (fun σ' H' => bk (σ'.set i none) H') (fun σ' H' => ct (σ'.set i none) H')) (σ.set i (some (.ref a))) H) :
    WE (wAs K (.ref C) i ts Wo (Ends.mk nx rt bk ct)) σ (.ref D) d H := ⟨true, PySem.W.exm_ref k.sb k.hd k.ty s, fun _ => h, fun z => Bool.noConfusion z⟩
end
end Vb
namespace Vb
open PySem PySem.Spec PyProof.Rows L2
/-! ### zip(s, t), each a list or a tuple -/
/-- a list (true) or a tuple (false) of these values -/
def SqB (K : PySem.W.Frag) (H : Hp) (a : Addr) (xs : List V) (p : Bool) : Prop := (p = true → SqL K H a xs) ∧ (p = false → SqT K H a xs)
theorem SqB.a {K : PySem.W.Frag} {H : Hp} {a : Addr} {xs : List V} {p : Bool} (h : SqB K H a xs p) : SqA K H a xs := by
  cases p
  · exact .inr (h.2 rfl)
  · exact .inl (h.1 rfl)
theorem sqB_of {K : PySem.W.Frag} {H : Hp} {a : Addr} {xs : List V} (h : SqA K H a xs) : ∃ p, SqB K H a xs p := by
  rcases h with h | h
  · exact ⟨true, fun _ => h, fun z => nomatch z⟩
  · exact ⟨false, (fun z => nomatch z), fun _ => h⟩
theorem SqB.same {K : PySem.W.Frag} {H H' : Hp} {a : Addr} {xs : List V} {p : Bool} (e : Same H H') (h : SqB K H a xs p) : SqB K H' a xs p := ⟨fun z => e.seq (h.1 z), fun z => sqT_same e (h.2 z)⟩
def ItB : Bool → Heap → Addr → Addr → Nat → Prop
  | true, h, it, a, i => h.IsListIter it a i
  | false, h, it, a, i => h.IsTupleIter it a i
def SeB : Bool → Heap → Addr → Array Value → Prop
  | true, h, a, items => h.IsList a items
  | false, h, a, items => h.IsTuple a items
theorem drawsB {prog : Program} {w : World} {A : Around} (p : Bool) (hh : A.handled = none) (it l : Addr) (hne : l ≠ it) (items : Array Value) : Draws prog w A it [it, l] items.size (fun i v => items[i]? = some v) (fun i h => ItB p h it l i ∧ SeB p h l items) := by
  cases p
  · exact Draws.tuple hh it l hne items
  · exact Draws.list hh it l hne items
theorem beginsB (p : Bool) (l : Addr) (items : Array Value) : ∃ o : Obj, Begins (.ref l) o (fun h => SeB p h l items) ∧ ∀ h' it, h'.get? it = some o → ItB p h' it l 0 := by
  cases p
  · exact ⟨_, begins_tuple l items, fun h' it e => ⟨_, e, rfl, rfl⟩⟩
  · exact ⟨_, begins_list l items, fun h' it e => ⟨_, e, rfl, rfl⟩⟩
theorem ItB.ob {p : Bool} {h : Heap} {it a : Addr} {i : Nat} (x : ItB p h it a i) : ∃ o, h.get? it = some o ∧ ∀ v, o.data ≠ .cell v := by
  cases p
  · obtain ⟨o, e, _, d⟩ := x
    exact ⟨o, e, fun v z => by rw [d] at z; cases z⟩
  · obtain ⟨o, e, _, d⟩ := x
    exact ⟨o, e, fun v z => by rw [d] at z; cases z⟩
theorem ItB.keep {p : Bool} {h h' : Heap} {it a : Addr} {i : Nat} (x : ItB p h it a i) (k : ∀ o, h.get? it = some o → h'.get? it = some o) : ItB p h' it a i := by
  cases p
  · exact (show h.IsTupleIter it a i from x).at k
  · exact (show h.IsListIter it a i from x).at k
theorem seB_of {X : Cx} {pins : List (Addr × Obj)} {σ : L2.St} {H : Hp} {s : Shared} {a : Addr} {xs : List V} {p : Bool} (I : Inv X pins σ H s) (h : SqB X.K H a xs p) : ∃ its, Vals xs its ∧ SeB p s.heap a its.toArray ∧ a < s.heap.objs.size := by
  cases p
  · obtain ⟨its, rv, pt, _⟩ := I.tuple (h.2 rfl)
    obtain ⟨o, ho, _⟩ := id pt
    exact ⟨its, rv, pt, Heap.lt_size ho⟩
  · obtain ⟨its, rv, pl, _⟩ := I.list (h.1 rfl)
    exact ⟨its, rv, pl.isList, pl.lt⟩
/-- the pairs of two rows -/
def Izb (K : PySem.W.Frag) (a b : Addr) (xs ys : List V) (p q : Bool) : It :=
  ⟨fun i H => SqB K H a xs p ∧ SqB K H b ys q ∧ i < xs.length ∧ i < ys.length, fun i H v H' => ∃ T x y, v = .ref T ∧ H T = none ∧ H' = upd H T (.tup [x, y]) ∧ xs[i]? = some x ∧ ys[i]? = some y, fun i H => SqB K H a xs p ∧ SqB K H b ys q ∧ (i = xs.length ∨ i = ys.length)⟩
theorem turn_zipB {P : Program} {w : World} {K : PySem.W.Frag} {elts : List Expr} {kk : Nat} {tpos : Pos} {p q : Bool} {a b z TI TO i1 i2 : Addr} {xs ys : List V} (S : ZipSep2 z TI TO i1 i2 [i1, a] [i2, b]) (na : a ≠ i1) (nb : b ≠ i2) :
    Turn P w K (.Tuple elts kk tpos) (Izb K a b xs ys p q) [z, TI, TO, i1, i2] z (fun i h => IsZip h z TI TO .none ∧ IsTupOf2 h TI (.ref i1) (.ref i2) ∧ (∃ x y, IsTupOf2 h TO x y) ∧ ItB p h i1 a i ∧ ItB q h i2 b i ∧ i ≤ xs.length ∧ i ≤ ys.length) where
  mem := List.mem_cons_self
  obj := by
    intro i h st c hc
    obtain ⟨hz, hTI, ⟨x, y, hTO⟩, h1, h2, _⟩ := st
    simp only [List.mem_cons, List.not_mem_nil, or_false] at hc
    rcases hc with rfl | rfl | rfl | rfl | rfl
    · exact ⟨_, hz, fun v t => nomatch t⟩
    · exact ⟨_, hTI, fun v t => nomatch t⟩
    · exact ⟨_, hTO, fun v t => nomatch t⟩
    · exact h1.ob
    · exact h2.ob
  keep := by
    intro i h h' st k
    obtain ⟨hz, hTI, ⟨x, y, hTO⟩, h1, h2, hl⟩ := st
    exact ⟨k z (by simp) _ hz, k TI (by simp) _ hTI, ⟨x, y, k TO (by simp) _ hTO⟩, h1.keep fun o t => k i1 (by simp) o t, h2.keep fun o t => k i2 (by simp) o t, hl⟩
  item := by
    intro X hP hw hK hc i pins s σ H E I hf st hg
    subst hP; subst hw; subst hK
    obtain ⟨hz, hTI, ⟨x0, y0, hTO⟩, h1, h2, hl1, hl2⟩ := st
    obtain ⟨qx, qy, lx, ly⟩ := hg
    obtain ⟨its, rv, p1, _⟩ := seB_of I qx
    obtain ⟨jts, rw', p2, _⟩ := seB_of I qy
    have hh : X.A.in1.handled = none := I.ok.hd hc
    have sx : i < its.toArray.size := by rw [List.size_toArray, ← rv.length]; exact lx
    have sy : i < jts.toArray.size := by rw [List.size_toArray, ← rw'.length]; exact ly
    have zl : z < s.heap.objs.size := Heap.lt_size hz
    refine wpAny_pyNext_zipD2_item S (drawsB p hh i1 a na its.toArray) (drawsB q hh i2 b nb jts.toArray) hz hTI hTO ⟨h1, p1⟩ ⟨h2, p2⟩ sx sy fun u v h' tk hu hv hz' hTO' st1 st2 hT _ hk => ?_
    obtain ⟨u', eu, ru⟩ := rv.get (List.getElem?_eq_getElem lx)
    obtain ⟨v', ev, rv2⟩ := rw'.get (List.getElem?_eq_getElem ly)
    obtain rfl : u' = u := by
      have : its[i]? = some u := by simpa using hu
      rw [eu] at this
      exact Option.some.inj this
    obtain rfl : v' = v := by
      have : jts[i]? = some v := by simpa using hv
      rw [ev] at this
      exact Option.some.inj this
    refine ⟨_, rfl, wpAny_letOwnedTupleGo_zip (s := { s with heap := h', toks := tk }) hz' fun g gz sb => ?_⟩
    have gT : g.get? s.heap.objs.size = some { cls := .type "tuple", data := .seq #[u', v'] } := (sb.2 _ (Nat.ne_of_gt zl)).trans hT
    have new : ObjOk X.prog X.w (upd H s.heap.objs.size (.tup [xs[i], ys[i]])) g s.heap.objs.size (.tup [xs[i], ys[i]]) := ⟨size_ok (by show 2 ≤ 16777216; decide), [u', v'], .cons ru (.cons rv2 .nil), ⟨_, gT, rfl, _, rfl⟩⟩
    have J : Inv X pins σ (upd H s.heap.objs.size (.tup [xs[i], ys[i]])) { s with heap := g, toks := tk } :=
      I.turnedNew (t' := tk) (ch := [z, TI, TO, i1, i2]) (fun c o hb t => (sb.2 c (fun y => hb (by simp [y]))).trans (hk c o (fun y => hb (by simp [y])) (fun y => hb (by simp [y])) (fun y => hb (by simp [y])) (fun y => hb (by simp [y])) t)) hf (Nat.le_refl _) new
    refine ⟨.ref s.heap.objs.size, _, J, rfl, ⟨_, xs[i], ys[i], rfl, I.hok.fresh (Nat.le_refl _), rfl, List.getElem?_eq_getElem lx, List.getElem?_eq_getElem ly⟩, ⟨gz, ?_, ⟨u', v', ?_⟩, ?_, ?_, lx, ly⟩, fun c hcm => ?_⟩
    · exact (sb.2 _ S.TIz).trans (hk _ _ S.TIz S.TITO S.TIi1 S.TIi2 hTI)
    · exact (sb.2 _ S.TOz).trans hTO'
    · exact st1.1.keep fun o t => (sb.2 _ (Ne.symm S.zi1)).trans t
    · exact st2.1.keep fun o t => (sb.2 _ (Ne.symm S.zi2)).trans t
    · have lt : c < s.heap.objs.size := by
        simp only [List.mem_cons, List.not_mem_nil, or_false] at hcm
        rcases hcm with rfl | rfl | rfl | rfl | rfl
        · exact zl
        · exact Heap.lt_size hTI
        · exact Heap.lt_size hTO
        · exact h1.ob.elim fun _ t => Heap.lt_size t.1
        · exact h2.ob.elim fun _ t => Heap.lt_size t.1
      rw [upd_ne (Nat.ne_of_lt lt)]
      exact (hf c hcm).1
  done := by
    intro X hP hw hK hc i pins s σ H E I hf st hg
    subst hP; subst hw; subst hK
    obtain ⟨hz, hTI, ⟨x0, y0, hTO⟩, h1, h2, hl1, hl2⟩ := st
    obtain ⟨qx, qy, le⟩ := hg
    obtain ⟨its, rv, p1, _⟩ := seB_of I qx
    obtain ⟨jts, rw', p2, _⟩ := seB_of I qy
    have hh : X.A.in1.handled = none := I.ok.hd hc
    have sx : its.toArray.size = xs.length := by rw [List.size_toArray, ← rv.length]
    have sy : jts.toArray.size = ys.length := by rw [List.size_toArray, ← rw'.length]
    refine wpAny_pyNext_zipD2_end S (drawsB p hh i1 a na its.toArray) (drawsB q hh i2 b nb jts.toArray) hz hTI hTO ⟨h1, p1⟩ ⟨h2, p2⟩ (by omega) (by omega) (by omega) fun h' tk hk => ⟨rfl, ?_⟩
    exact I.turnedL (t' := tk) (ch := [z, TI, TO, i1, i2]) (fun c o hb t => hk c o (fun y => hb (by simp [y])) (fun y => hb (by simp [y])) (fun y => hb (by simp [y])) (fun y => hb (by simp [y])) t) hf
  self := by
    intro A i s Q E st t
    exact wpAny_pyIter_zip st.1 t
theorem sep_nat (n a b : Nat) (la : a < n) (lb : b < n) : ZipSep2 (n + 4) (n + 2) (n + 3) n (n + 1) [n, a] [n + 1, b] := by
  have ne : ∀ {x y : Nat}, x ≠ y → (x : Addr) ≠ y := fun h => h
  have no : ∀ {x y z : Nat}, x ≠ y → x ≠ z → (x : Addr) ∉ ([y, z] : List Addr) := fun h1 h2 h => by
    rcases List.mem_cons.mp h with e | h
    · exact h1 e
    · exact h2 (List.mem_singleton.mp h)
  exact ⟨ne (by omega), ne (by omega), ne (by omega), ne (by omega), List.mem_cons_self, no (by omega) (by omega), no (by omega) (by omega), ne (by omega), List.mem_cons_self, no (by omega) (by omega), no (by omega) (by omega), no (by omega) (by omega), no (by omega) (by omega)⟩
def iZipB (K : PySem.W.Frag) (ta : TA) : TI := fun σ H R => ta σ H fun vs H1 => ∃ a b xs ys p q, vs = [.ref a, .ref b] ∧ SqB K H1 a xs p ∧ SqB K H1 b ys q ∧ R (Izb K a b xs ys p q) H1
theorem pi_zipB {X : Cx} {e e2 : Expr} {ta : TA} {p pos tpos : Pos} {elts : List Expr} {kk : Nat} (hg : Gl X "zip") (hm : X.mg "zip" = none) (ha : PA X [e, e2] ta) (hs : starEach [e, e2] X.env = (false, eval e X.env) :: starEach [e2] X.env := by rfl) (hpl : (backTo pos (starEach [e2] X.env)).any (·.1) = false := by rfl) :
    PI X (.Tuple elts kk tpos) (.Call (.Name "zip" p) [e, e2] [] pos) (iZipB X.K ta) := by
  constructor
  intro pins s σ H R I h
  refine Call_ (ld_blt I hg hm PyProof.Rows.boot_zip (PyProof.Rows.callWith_type1 (thn (ha.run pos pins s σ H _ I h) fun us s1 y => ?_) hs hpl))
  obtain ⟨vs, H1, I1, r1, a, b, xs, ys, p, q, ex, qx, qy, t⟩ := y
  subst ex
  obtain ⟨u1, u2, rfl, r2, r3⟩ := vals2 r1
  obtain rfl : u1 = Value.ref a := r2
  obtain rfl : u2 = Value.ref b := r3
  obtain ⟨its, rv, p1, la⟩ := seB_of I1 qx
  obtain ⟨jts, rw', p2, lb⟩ := seB_of I1 qy
  obtain ⟨o1, B1, g1⟩ := beginsB p a its.toArray
  obtain ⟨o2, B2, g2⟩ := beginsB q b jts.toArray
  refine zip_begins2 B1 B2 p1 p2 fun h' hz hTI hTO e1 e2 _ hk => wpAny_pyIter_zip hz ?_
  have I2 : Inv X pins σ H1 { s1 with heap := h' } := I1.kept (t' := s1.toks) hk
  refine ⟨s1.heap.objs.size + 4, [s1.heap.objs.size + 4, s1.heap.objs.size + 2, s1.heap.objs.size + 3, s1.heap.objs.size, s1.heap.objs.size + 1], _, _, H1, rfl, I2, turn_zipB (sep_nat _ _ _ la lb) (Nat.ne_of_lt la) (Nat.ne_of_lt (Nat.lt_succ_of_lt lb)), ⟨hz, hTI, ⟨_, _, hTO⟩, g1 _ _ e1, g2 _ _ e2, Nat.zero_le _, Nat.zero_le _⟩, fun c hcm => ?_, t⟩
  have le : s1.heap.objs.size ≤ c := by
    simp only [List.mem_cons, List.not_mem_nil, or_false] at hcm
    rcases hcm with rfl | rfl | rfl | rfl | rfl
    · exact Nat.le_add_right _ _
    · exact Nat.le_add_right _ _
    · exact Nat.le_add_right _ _
    · exact Nat.le_refl _
    · exact Nat.le_add_right _ _
  exact I1.fpOk le (I1.hok.fresh le)
section
variable {ts : TS} {nx : L2.St → Hp → Prop} {rt : VK} {σ : L2.St} {H : Hp} {K : PySem.W.Frag}
theorem r_iZipB {ta : TA} {R : It → Hp → Prop} (h : ta σ H fun vs H1 => ∃ a b xs ys p q, vs = [.ref a, .ref b] ∧ SqB K H1 a xs p ∧ SqB K H1 b ys q ∧ R (Izb K a b xs ys p q) H1) : iZipB K ta σ H R := h
/-- a for over the pairs of two rows of one length that stand still -/
theorem lp_zipB {a b : Addr} {xs ys : List V} {p q : Bool} {g : TG} (hl : xs.length = ys.length) (Pv : Nat → L2.St → Hp → Prop) (h0 : Pv 0 σ H) (hq : ∀ i σ H, i ≤ xs.length → Pv i σ H → SqB K H a xs p ∧ SqB K H b ys q)
    (hs : ∀ i x y T σ H, xs[i]? = some x → ys[i]? = some y → Pv i σ H → H T = none → g (.ref T) σ (upd H T (.tup [x, y])) fun σ2 H2 => ts (Ends.mk (Pv (i + 1)) rt nx (Pv (i + 1))) σ2 H2) (hd : ∀ σ H, Pv xs.length σ H → nx σ H) : ForW (Izb K a b xs ys p q) g ts nx rt σ H := by
  refine ⟨fun i m σ H => m = xs.length - i ∧ i ≤ xs.length ∧ Pv i σ H, ⟨_, rfl, Nat.zero_le _, h0⟩, ?_⟩
  rintro i m σ H ⟨rfl, hi, pv⟩
  obtain ⟨qx, qy⟩ := hq i σ H hi pv
  by_cases hc : i = xs.length
  · subst hc
    exact .inl ⟨⟨qx, qy, .inl rfl⟩, hd _ _ pv⟩
  · refine .inr ⟨⟨qx, qy, by omega, by omega⟩, fun σ' H' => Pv (i + 1) σ' H', fun σ' H' z => ⟨xs.length - (i + 1), by omega, rfl, by omega, z⟩, ?_⟩
    rintro v H' ⟨T, x, y, rfl, hT, rfl, hx, hy⟩
    exact hs i x y T σ _ hx hy pv hT
end
end Vb
namespace K
open PySem PySem.Spec PyProof.Rows L2
def topS (i : Nat) : Stmt := PySem.Challenge.pw_sumtalk_k69_residues_undo.main.body.getD i (.Pass ⟨0, 0, 0, 0⟩)
abbrev s__wall : Stmt := topS 0
abbrev s_NotPrime___init__ : Stmt := inClass (topS 3) 0
abbrev s_NotInField___init__ : Stmt := inClass (topS 4) 0
abbrev s_is_whole : Stmt := topS 12
abbrev s_is_number : Stmt := topS 13
abbrev s_check_number : Stmt := topS 14
abbrev s_check_numbers : Stmt := topS 15
abbrev s_check_range : Stmt := topS 16
abbrev s_check_at_most : Stmt := topS 17
abbrev s_check_length : Stmt := topS 18
abbrev s_is_prime : Stmt := topS 23
abbrev s_check_prime : Stmt := topS 24
abbrev s_power_modulo : Stmt := topS 25
abbrev s_Field___init__ : Stmt := inClass (topS 26) 0
abbrev s_Field___contains__ : Stmt := inClass (topS 26) 1
abbrev s_Field___eq__ : Stmt := inClass (topS 26) 2
abbrev s_Field_add : Stmt := inClass (topS 26) 3
abbrev s_Field_subtract : Stmt := inClass (topS 26) 4
abbrev s_Field_multiply : Stmt := inClass (topS 26) 5
abbrev s_Field_divide : Stmt := inClass (topS 26) 6
abbrev s_Field_negate : Stmt := inClass (topS 26) 7
abbrev s_Field_invert : Stmt := inClass (topS 26) 8
abbrev s_Field_power : Stmt := inClass (topS 26) 9
abbrev s_Field_reduce : Stmt := inClass (topS 26) 10
abbrev s_Field_members : Stmt := inClass (topS 26) 11
abbrev s_check_primes : Stmt := topS 29
abbrev s_residues : Stmt := topS 30
abbrev s_from_residues : Stmt := topS 31
abbrev s__law_mix : Stmt := topS 33
abbrev s__law_store : Stmt := topS 34
abbrev s__law_take : Stmt := topS 35
abbrev s__law_edge : Stmt := topS 36
abbrev s__law_pick : Stmt := topS 37
abbrev s__law_big : Stmt := topS 38
abbrev s__law_any_count : Stmt := topS 39
abbrev s__law_other_kind : Stmt := topS 40
abbrev s__law_bad_integer : Stmt := topS 41
abbrev s__law_primes : Stmt := topS 42
abbrev s__law_prime : Stmt := topS 43
abbrev s__law_number : Stmt := topS 44
abbrev s__law_row : Stmt := topS 45
abbrev s__law_bad_number : Stmt := topS 46
abbrev s__law_bad_prime : Stmt := topS 47
abbrev s__law_same : Stmt := topS 48
abbrev s__law_integer : Stmt := topS 49
abbrev s__law_copy : Stmt := topS 50
abbrev s__law_spoil_list : Stmt := topS 51
abbrev s__law_prime_row : Stmt := topS 52
abbrev s__law_bad_primes : Stmt := topS 53
abbrev s__law_class_names : Stmt := topS 54
abbrev s__law_asked : Stmt := topS 55
abbrev s__law_told : Stmt := topS 56
abbrev s__law_product : Stmt := topS 57
abbrev s__law_rests : Stmt := topS 58
abbrev s__law_residues_are : Stmt := topS 59
abbrev s__law_undone : Stmt := topS 60
abbrev s__law_bent_rests : Stmt := topS 61
abbrev s__law_refused : Stmt := topS 62
abbrev s_law : Stmt := topS 63
/-! what the top has written -/
structure Txt (K : PySem.W.Frag) (mg : Str → Option Value) where
  C_TalkError : Addr
  x_TalkError : Vb.Xn K mg "TalkError" C_TalkError
  C_NotPrime : Addr
  I_NotPrime : Addr
  i_NotPrime : PySem.Lowvalue.LowTxt K mg "NotPrime" "NotPrime.__init__" C_NotPrime I_NotPrime
  C_NotInField : Addr
  I_NotInField : Addr
  i_NotInField : PySem.Lowvalue.LowTxt K mg "NotInField" "NotInField.__init__" C_NotInField I_NotInField
  C_WrongPlaces : Addr
  x_WrongPlaces : Vb.Xn K mg "WrongPlaces" C_WrongPlaces
  C_DivisionByZero : Addr
  x_DivisionByZero : Vb.Xn K mg "DivisionByZero" C_DivisionByZero
  C_Repeated : Addr
  x_Repeated : Vb.Xn K mg "Repeated" C_Repeated
  C_OutOfRange : Addr
  x_OutOfRange : Vb.Xn K mg "OutOfRange" C_OutOfRange
  C_TooLarge : Addr
  x_TooLarge : Vb.Xn K mg "TooLarge" C_TooLarge
  xk_NotPrime : Vb.Xk K C_NotPrime
  xk_NotInField : Vb.Xk K C_NotInField
  xk_TalkError : Vb.Xk K C_TalkError
  xk_TooLarge : Vb.Xk K C_TooLarge
  xk_Repeated : Vb.Xk K C_Repeated
  xk_OutOfRange : Vb.Xk K C_OutOfRange
  xk_WrongPlaces : Vb.Xk K C_WrongPlaces
  k_NotPrime_TooLarge : PySem.W.kitOne K (.ref C_NotPrime) (.ref C_TooLarge) = some false
  k_NotPrime_Repeated : PySem.W.kitOne K (.ref C_NotPrime) (.ref C_Repeated) = some false
  k_NotPrime_NotPrime : PySem.W.kitOne K (.ref C_NotPrime) (.ref C_NotPrime) = some true
  k_NotPrime_OutOfRange : PySem.W.kitOne K (.ref C_NotPrime) (.ref C_OutOfRange) = some false
  k_NotPrime_WrongPlaces : PySem.W.kitOne K (.ref C_NotPrime) (.ref C_WrongPlaces) = some false
  k_NotPrime_NotInField : PySem.W.kitOne K (.ref C_NotPrime) (.ref C_NotInField) = some false
  k_NotInField_TooLarge : PySem.W.kitOne K (.ref C_NotInField) (.ref C_TooLarge) = some false
  k_NotInField_Repeated : PySem.W.kitOne K (.ref C_NotInField) (.ref C_Repeated) = some false
  k_NotInField_NotPrime : PySem.W.kitOne K (.ref C_NotInField) (.ref C_NotPrime) = some false
  k_NotInField_OutOfRange : PySem.W.kitOne K (.ref C_NotInField) (.ref C_OutOfRange) = some false
  k_NotInField_WrongPlaces : PySem.W.kitOne K (.ref C_NotInField) (.ref C_WrongPlaces) = some false
  k_NotInField_NotInField : PySem.W.kitOne K (.ref C_NotInField) (.ref C_NotInField) = some true
  k_TooLarge_TooLarge : PySem.W.kitOne K (.ref C_TooLarge) (.ref C_TooLarge) = some true
  k_TooLarge_Repeated : PySem.W.kitOne K (.ref C_TooLarge) (.ref C_Repeated) = some false
  k_TooLarge_NotPrime : PySem.W.kitOne K (.ref C_TooLarge) (.ref C_NotPrime) = some false
  k_TooLarge_OutOfRange : PySem.W.kitOne K (.ref C_TooLarge) (.ref C_OutOfRange) = some false
  k_TooLarge_WrongPlaces : PySem.W.kitOne K (.ref C_TooLarge) (.ref C_WrongPlaces) = some false
  k_TooLarge_NotInField : PySem.W.kitOne K (.ref C_TooLarge) (.ref C_NotInField) = some false
  k_Repeated_TooLarge : PySem.W.kitOne K (.ref C_Repeated) (.ref C_TooLarge) = some false
  k_Repeated_Repeated : PySem.W.kitOne K (.ref C_Repeated) (.ref C_Repeated) = some true
  k_Repeated_NotPrime : PySem.W.kitOne K (.ref C_Repeated) (.ref C_NotPrime) = some false
  k_Repeated_OutOfRange : PySem.W.kitOne K (.ref C_Repeated) (.ref C_OutOfRange) = some false
  k_Repeated_WrongPlaces : PySem.W.kitOne K (.ref C_Repeated) (.ref C_WrongPlaces) = some false
  k_Repeated_NotInField : PySem.W.kitOne K (.ref C_Repeated) (.ref C_NotInField) = some false
  k_OutOfRange_TooLarge : PySem.W.kitOne K (.ref C_OutOfRange) (.ref C_TooLarge) = some false
  k_OutOfRange_Repeated : PySem.W.kitOne K (.ref C_OutOfRange) (.ref C_Repeated) = some false
  k_OutOfRange_NotPrime : PySem.W.kitOne K (.ref C_OutOfRange) (.ref C_NotPrime) = some false
  k_OutOfRange_OutOfRange : PySem.W.kitOne K (.ref C_OutOfRange) (.ref C_OutOfRange) = some true
  k_OutOfRange_WrongPlaces : PySem.W.kitOne K (.ref C_OutOfRange) (.ref C_WrongPlaces) = some false
  k_OutOfRange_NotInField : PySem.W.kitOne K (.ref C_OutOfRange) (.ref C_NotInField) = some false
  k_WrongPlaces_TooLarge : PySem.W.kitOne K (.ref C_WrongPlaces) (.ref C_TooLarge) = some false
  k_WrongPlaces_Repeated : PySem.W.kitOne K (.ref C_WrongPlaces) (.ref C_Repeated) = some false
  k_WrongPlaces_NotPrime : PySem.W.kitOne K (.ref C_WrongPlaces) (.ref C_NotPrime) = some false
  k_WrongPlaces_OutOfRange : PySem.W.kitOne K (.ref C_WrongPlaces) (.ref C_OutOfRange) = some false
  k_WrongPlaces_WrongPlaces : PySem.W.kitOne K (.ref C_WrongPlaces) (.ref C_WrongPlaces) = some true
  k_WrongPlaces_NotInField : PySem.W.kitOne K (.ref C_WrongPlaces) (.ref C_NotInField) = some false
  f__wall : Addr
  fd__wall : FuncData
  d__wall : Vb.Dn K mg "_wall" s__wall ["k"] f__wall fd__wall
  f_is_whole : Addr
  fd_is_whole : FuncData
  d_is_whole : Vb.Dn K mg "is_whole" s_is_whole ["value"] f_is_whole fd_is_whole
  f_is_number : Addr
  fd_is_number : FuncData
  d_is_number : Vb.Dn K mg "is_number" s_is_number ["prime", "value"] f_is_number fd_is_number
  f_check_number : Addr
  fd_check_number : FuncData
  d_check_number : Vb.Dn K mg "check_number" s_check_number ["prime", "value"] f_check_number fd_check_number
  f_check_numbers : Addr
  fd_check_numbers : FuncData
  d_check_numbers : Vb.Dn K mg "check_numbers" s_check_numbers ["prime", "numbers"] f_check_numbers fd_check_numbers
  f_check_range : Addr
  fd_check_range : FuncData
  d_check_range : Vb.Dn K mg "check_range" s_check_range ["value", "least", "most"] f_check_range fd_check_range
  f_check_at_most : Addr
  fd_check_at_most : FuncData
  d_check_at_most : Vb.Dn K mg "check_at_most" s_check_at_most ["row", "most"] f_check_at_most fd_check_at_most
  f_check_length : Addr
  fd_check_length : FuncData
  d_check_length : Vb.Dn K mg "check_length" s_check_length ["row", "length"] f_check_length fd_check_length
  f_is_prime : Addr
  fd_is_prime : FuncData
  d_is_prime : Vb.Dn K mg "is_prime" s_is_prime ["value"] f_is_prime fd_is_prime
  f_check_prime : Addr
  fd_check_prime : FuncData
  d_check_prime : Vb.Dn K mg "check_prime" s_check_prime ["prime"] f_check_prime fd_check_prime
  f_power_modulo : Addr
  fd_power_modulo : FuncData
  d_power_modulo : Vb.Dn K mg "power_modulo" s_power_modulo ["prime", "number", "exponent"] f_power_modulo fd_power_modulo
  f_check_primes : Addr
  fd_check_primes : FuncData
  d_check_primes : Vb.Dn K mg "check_primes" s_check_primes ["primes"] f_check_primes fd_check_primes
  f_residues : Addr
  fd_residues : FuncData
  d_residues : Vb.Dn K mg "residues" s_residues ["count", "primes"] f_residues fd_residues
  f_from_residues : Addr
  fd_from_residues : FuncData
  d_from_residues : Vb.Dn K mg "from_residues" s_from_residues ["primes", "remainders"] f_from_residues fd_from_residues
  f__law_mix : Addr
  fd__law_mix : FuncData
  d__law_mix : Vb.Dn K mg "_law_mix" s__law_mix ["number", "turn"] f__law_mix fd__law_mix
  f__law_store : Addr
  fd__law_store : FuncData
  d__law_store : Vb.Dn K mg "_law_store" s__law_store ["script"] f__law_store fd__law_store
  f__law_take : Addr
  fd__law_take : FuncData
  d__law_take : Vb.Dn K mg "_law_take" s__law_take ["store", "many"] f__law_take fd__law_take
  f__law_edge : Addr
  fd__law_edge : FuncData
  d__law_edge : Vb.Dn K mg "_law_edge" s__law_edge ["store", "low", "high"] f__law_edge fd__law_edge
  f__law_pick : Addr
  fd__law_pick : FuncData
  d__law_pick : Vb.Dn K mg "_law_pick" s__law_pick ["store", "row"] f__law_pick fd__law_pick
  f__law_big : Addr
  fd__law_big : FuncData
  d__law_big : Vb.Dn K mg "_law_big" s__law_big ["store", "figures"] f__law_big fd__law_big
  f__law_any_count : Addr
  fd__law_any_count : FuncData
  d__law_any_count : Vb.Dn K mg "_law_any_count" s__law_any_count ["store"] f__law_any_count fd__law_any_count
  f__law_other_kind : Addr
  fd__law_other_kind : FuncData
  d__law_other_kind : Vb.Dn K mg "_law_other_kind" s__law_other_kind ["store"] f__law_other_kind fd__law_other_kind
  f__law_bad_integer : Addr
  fd__law_bad_integer : FuncData
  d__law_bad_integer : Vb.Dn K mg "_law_bad_integer" s__law_bad_integer ["store", "low", "high"] f__law_bad_integer fd__law_bad_integer
  f__law_primes : Addr
  fd__law_primes : FuncData
  d__law_primes : Vb.Dn K mg "_law_primes" s__law_primes ["limit"] f__law_primes fd__law_primes
  f__law_prime : Addr
  fd__law_prime : FuncData
  d__law_prime : Vb.Dn K mg "_law_prime" s__law_prime ["store"] f__law_prime fd__law_prime
  f__law_number : Addr
  fd__law_number : FuncData
  d__law_number : Vb.Dn K mg "_law_number" s__law_number ["store", "prime"] f__law_number fd__law_number
  f__law_row : Addr
  fd__law_row : FuncData
  d__law_row : Vb.Dn K mg "_law_row" s__law_row ["store", "row"] f__law_row fd__law_row
  f__law_bad_number : Addr
  fd__law_bad_number : FuncData
  d__law_bad_number : Vb.Dn K mg "_law_bad_number" s__law_bad_number ["store", "prime"] f__law_bad_number fd__law_bad_number
  f__law_bad_prime : Addr
  fd__law_bad_prime : FuncData
  d__law_bad_prime : Vb.Dn K mg "_law_bad_prime" s__law_bad_prime ["store"] f__law_bad_prime fd__law_bad_prime
  f__law_same : Addr
  fd__law_same : FuncData
  d__law_same : Vb.Dn K mg "_law_same" s__law_same ["actual", "expected"] f__law_same fd__law_same
  f__law_integer : Addr
  fd__law_integer : FuncData
  d__law_integer : Vb.Dn K mg "_law_integer" s__law_integer ["actual"] f__law_integer fd__law_integer
  f__law_copy : Addr
  fd__law_copy : FuncData
  d__law_copy : Vb.Dn K mg "_law_copy" s__law_copy ["value"] f__law_copy fd__law_copy
  f__law_spoil_list : Addr
  fd__law_spoil_list : FuncData
  d__law_spoil_list : Vb.Dn K mg "_law_spoil_list" s__law_spoil_list ["row"] f__law_spoil_list fd__law_spoil_list
  f__law_prime_row : Addr
  fd__law_prime_row : FuncData
  d__law_prime_row : Vb.Dn K mg "_law_prime_row" s__law_prime_row ["store", "many"] f__law_prime_row fd__law_prime_row
  f__law_bad_primes : Addr
  fd__law_bad_primes : FuncData
  d__law_bad_primes : Vb.Dn K mg "_law_bad_primes" s__law_bad_primes ["store"] f__law_bad_primes fd__law_bad_primes
  f__law_class_names : Addr
  fd__law_class_names : FuncData
  d__law_class_names : Vb.Dn K mg "_law_class_names" s__law_class_names ["error"] f__law_class_names fd__law_class_names
  f__law_asked : Addr
  fd__law_asked : FuncData
  d__law_asked : Vb.Dn K mg "_law_asked" s__law_asked ["which", "first", "second"] f__law_asked fd__law_asked
  f__law_told : Addr
  fd__law_told : FuncData
  d__law_told : Vb.Dn K mg "_law_told" s__law_told ["which", "first", "second", "value"] f__law_told fd__law_told
  f__law_product : Addr
  fd__law_product : FuncData
  d__law_product : Vb.Dn K mg "_law_product" s__law_product ["row"] f__law_product fd__law_product
  f__law_rests : Addr
  fd__law_rests : FuncData
  d__law_rests : Vb.Dn K mg "_law_rests" s__law_rests ["count", "primes"] f__law_rests fd__law_rests
  f__law_residues_are : Addr
  fd__law_residues_are : FuncData
  d__law_residues_are : Vb.Dn K mg "_law_residues_are" s__law_residues_are ["store", "count", "primes"] f__law_residues_are fd__law_residues_are
  f__law_undone : Addr
  fd__law_undone : FuncData
  d__law_undone : Vb.Dn K mg "_law_undone" s__law_undone ["store", "primes", "rests"] f__law_undone fd__law_undone
  f__law_bent_rests : Addr
  fd__law_bent_rests : FuncData
  d__law_bent_rests : Vb.Dn K mg "_law_bent_rests" s__law_bent_rests ["store", "primes", "rests"] f__law_bent_rests fd__law_bent_rests
  f__law_refused : Addr
  fd__law_refused : FuncData
  d__law_refused : Vb.Dn K mg "_law_refused" s__law_refused ["store", "primes", "rests"] f__law_refused fd__law_refused
  f_law : Addr
  fd_law : FuncData
  d_law : Vb.Dn K mg "law" s_law ["script"] f_law fd_law
  C_Field : Addr
  g_Field : mg "Field" = some (.ref C_Field)
  c_Field : Cls K C_Field
  f_Field___init__ : Addr
  fd_Field___init__ : FuncData
  m_Field___init__ : Meth K C_Field "__init__" f_Field___init__
  d_Field___init__ : Vb.Dm K "__init__" "Field.__init__" s_Field___init__ ["self", "prime"] f_Field___init__ fd_Field___init__
  f_Field___contains__ : Addr
  fd_Field___contains__ : FuncData
  m_Field___contains__ : Meth K C_Field "__contains__" f_Field___contains__
  d_Field___contains__ : Vb.Dm K "__contains__" "Field.__contains__" s_Field___contains__ ["self", "value"] f_Field___contains__ fd_Field___contains__
  f_Field___eq__ : Addr
  fd_Field___eq__ : FuncData
  m_Field___eq__ : Meth K C_Field "__eq__" f_Field___eq__
  d_Field___eq__ : Vb.Dm K "__eq__" "Field.__eq__" s_Field___eq__ ["self", "other"] f_Field___eq__ fd_Field___eq__
  f_Field_add : Addr
  fd_Field_add : FuncData
  m_Field_add : Meth K C_Field "add" f_Field_add
  d_Field_add : Vb.Dm K "add" "Field.add" s_Field_add ["self", "number", "other_number"] f_Field_add fd_Field_add
  f_Field_subtract : Addr
  fd_Field_subtract : FuncData
  m_Field_subtract : Meth K C_Field "subtract" f_Field_subtract
  d_Field_subtract : Vb.Dm K "subtract" "Field.subtract" s_Field_subtract ["self", "number", "other_number"] f_Field_subtract fd_Field_subtract
  f_Field_multiply : Addr
  fd_Field_multiply : FuncData
  m_Field_multiply : Meth K C_Field "multiply" f_Field_multiply
  d_Field_multiply : Vb.Dm K "multiply" "Field.multiply" s_Field_multiply ["self", "number", "other_number"] f_Field_multiply fd_Field_multiply
  f_Field_divide : Addr
  fd_Field_divide : FuncData
  m_Field_divide : Meth K C_Field "divide" f_Field_divide
  d_Field_divide : Vb.Dm K "divide" "Field.divide" s_Field_divide ["self", "number", "other_number"] f_Field_divide fd_Field_divide
  f_Field_negate : Addr
  fd_Field_negate : FuncData
  m_Field_negate : Meth K C_Field "negate" f_Field_negate
  d_Field_negate : Vb.Dm K "negate" "Field.negate" s_Field_negate ["self", "number"] f_Field_negate fd_Field_negate
  f_Field_invert : Addr
  fd_Field_invert : FuncData
  m_Field_invert : Meth K C_Field "invert" f_Field_invert
  d_Field_invert : Vb.Dm K "invert" "Field.invert" s_Field_invert ["self", "number"] f_Field_invert fd_Field_invert
  f_Field_power : Addr
  fd_Field_power : FuncData
  m_Field_power : Meth K C_Field "power" f_Field_power
  d_Field_power : Vb.Dm K "power" "Field.power" s_Field_power ["self", "number", "exponent"] f_Field_power fd_Field_power
  f_Field_reduce : Addr
  fd_Field_reduce : FuncData
  m_Field_reduce : Meth K C_Field "reduce" f_Field_reduce
  d_Field_reduce : Vb.Dm K "reduce" "Field.reduce" s_Field_reduce ["self", "integer"] f_Field_reduce fd_Field_reduce
  f_Field_members : Addr
  fd_Field_members : FuncData
  m_Field_members : Meth K C_Field "members" f_Field_members
  d_Field_members : Vb.Dm K "members" "Field.members" s_Field_members ["self"] f_Field_members fd_Field_members
  mk_Field : Mk K C_Field f_Field___init__
  a_Field_prime : PySem.W.findIn K (.ref C_Field) "prime" = some none
  xs_NotInField_NotPrime : PySem.W.subIn K (.ref C_NotInField) (.ref C_NotPrime) = some false
  xs_TalkError_NotPrime : PySem.W.subIn K (.ref C_TalkError) (.ref C_NotPrime) = some false
  xs_TalkError_NotInField : PySem.W.subIn K (.ref C_TalkError) (.ref C_NotInField) = some false
  xs_TooLarge_NotPrime : PySem.W.subIn K (.ref C_TooLarge) (.ref C_NotPrime) = some false
  xs_Repeated_NotPrime : PySem.W.subIn K (.ref C_Repeated) (.ref C_NotPrime) = some false
  xs_OutOfRange_NotPrime : PySem.W.subIn K (.ref C_OutOfRange) (.ref C_NotPrime) = some false
  xs_WrongPlaces_NotPrime : PySem.W.subIn K (.ref C_WrongPlaces) (.ref C_NotPrime) = some false
  xs_TooLarge_NotInField : PySem.W.subIn K (.ref C_TooLarge) (.ref C_NotInField) = some false
  xs_Repeated_NotInField : PySem.W.subIn K (.ref C_Repeated) (.ref C_NotInField) = some false
  xs_OutOfRange_NotInField : PySem.W.subIn K (.ref C_OutOfRange) (.ref C_NotInField) = some false
  xs_WrongPlaces_NotInField : PySem.W.subIn K (.ref C_WrongPlaces) (.ref C_NotInField) = some false
  xs_TooLarge_TalkError : PySem.W.subIn K (.ref C_TooLarge) (.ref C_TalkError) = some true
  xs_Repeated_TalkError : PySem.W.subIn K (.ref C_Repeated) (.ref C_TalkError) = some true
  xs_OutOfRange_TalkError : PySem.W.subIn K (.ref C_OutOfRange) (.ref C_TalkError) = some true
  xs_WrongPlaces_TalkError : PySem.W.subIn K (.ref C_WrongPlaces) (.ref C_TalkError) = some true
  ki_Field : Vb.Ki K C_Field
  sb_Field_int : PySem.W.subIn K (.type "int") (.ref C_Field) = some false
  sb_Field_str : PySem.W.subIn K (.type "str") (.ref C_Field) = some false
  sb_Field_NoneType : PySem.W.subIn K (.type "NoneType") (.ref C_Field) = some false
  sb_Field_bool : PySem.W.subIn K (.type "bool") (.ref C_Field) = some false
  sb_Field_list : PySem.W.subIn K (.type "list") (.ref C_Field) = some false
  sb_Field_tuple : PySem.W.subIn K (.type "tuple") (.ref C_Field) = some false
  t_TEN_TO_300 : Tok
  c_TEN_TO_300 : mg "TEN_TO_300" = some (.int 1000000000000000000000000000000000000000000000000000000000000000000000000000000000000000000000000000000000000000000000000000000000000000000000000000000000000000000000000000000000000000000000000000000000000000000000000000000000000000000000000000000000000000000000000000000000000000000000000000000000000 t_TEN_TO_300)
  t_MAX_PRIME : Tok
  c_MAX_PRIME : mg "MAX_PRIME" = some (.int 101 t_MAX_PRIME)
  t_MAX_TESTED : Tok
  c_MAX_TESTED : mg "MAX_TESTED" = some (.int 10000 t_MAX_TESTED)
  t_MAX_EXPONENT : Tok
  c_MAX_EXPONENT : mg "MAX_EXPONENT" = some (.int 10000 t_MAX_EXPONENT)
  t_MAX_PRIMES : Tok
  c_MAX_PRIMES : mg "MAX_PRIMES" = some (.int 8 t_MAX_PRIMES)
  n_ValueError : mg "ValueError" = none
  n_zip : mg "zip" = none
  n_max : mg "max" = none
  n_range : mg "range" = none
  n_tuple : mg "tuple" = none
  n_isinstance : mg "isinstance" = none
  n_int : mg "int" = none
  n_str : mg "str" = none
  n_list : mg "list" = none
  n_len : mg "len" = none
  n_bool : mg "bool" = none
  n_min : mg "min" = none
  n_set : mg "set" = none
  n_abs : mg "abs" = none
end K
local macro_rules | `(tactic| walk_at "rd1") => `(tactic| first
  | (with_reducible refine' Vb.r_var ?h_ ?k_); (case h_ => exact rfl)
  | with_reducible refine Vb.r_c ?_
  | with_reducible refine Vb.r_op ?_
  | with_reducible refine Vb.r_un ?_
  | with_reducible refine Vb.r_I0 ?_
  | (with_reducible refine Vb.r_I ?h_ ?_); (case h_ => walk_at "side")
  | with_reducible refine Vb.r_U ?_
  | with_reducible refine Vb.r_eqI ?_
  | with_reducible refine Vb.r_neI ?_
  | with_reducible refine Vb.r_test ?_
  | with_reducible refine Vb.r_tB ?_
  | with_reducible refine Vb.r_bl ?_
  | with_reducible refine Vb.r_and ?_
  | with_reducible refine Vb.r_or ?_
  | with_reducible refine Vb.r_not ?_
  | with_reducible refine Vb.r_andV ?_
  | with_reducible refine Vb.r_orV ?_
  | with_reducible refine Vb.r_notV ?_
  | with_reducible refine Vb.r_if ?_
  | with_reducible refine Vb.r_chain ?_
  | with_reducible refine Vb.r_iteT ?_
  | with_reducible refine Vb.r_iteF ?_
  | with_reducible refine Vb.r_iteNT ?_
  | with_reducible refine Vb.r_iteNF ?_
  | with_reducible refine Vb.r_nil ?_
  | with_reducible refine Vb.r_cons ?_
  | with_reducible refine Vb.r_tup ?_
  | with_reducible refine Vb.r_lst ?_
  | with_reducible refine Vb.r_CB ?_
  | with_reducible refine Vb.r_callS ?_
  | with_reducible refine Vb.r_call ?_
  | with_reducible refine Vb.r_BM ?_
  | with_reducible refine Vb.r_seq_set ?_
  | with_reducible refine Vb.r_seq_sub ?_
  | with_reducible refine Vb.r_seq_when ?_
  | with_reducible refine Vb.r_seq_if ?_
  | with_reducible refine Vb.r_seq_drop ?_
  | with_reducible refine Vb.r_seq ?_
  | with_reducible refine Vb.r_set ?_
  | with_reducible refine Vb.r_sub ?_
  | with_reducible refine Vb.r_when ?_
  | with_reducible refine Vb.r_ifs ?_
  | with_reducible refine Vb.r_drop ?_
  | with_reducible refine Vb.r_ret ?_
  | with_reducible refine Vb.r_brk ?_
  | with_reducible refine Vb.r_cnt ?_
  | with_reducible refine Vb.r_nxt ?_
  | with_reducible refine Vb.r_for ?_
  | with_reducible refine Vb.r_rng1 ?_
  | with_reducible refine Vb.r_rng2 ?_
  | with_reducible refine Vb.r_iList ?_
  | with_reducible refine Vb.r_gName ?_
  | with_reducible refine Vb.r_lc ?_
  | with_reducible refine Vb.lct_yes ?_
  | with_reducible refine Vb.lct_if ?_
  | with_reducible refine Vb.r_rng3 ?_
  | with_reducible refine Vb.r_rngW ?_
  | with_reducible refine Vb.r_eqBs ?_
  | with_reducible refine Vb.r_eqB ?_
  | with_reducible refine Vb.r_neB ?_
  | with_reducible refine Vb.r_eqS ?_
  | with_reducible refine Vb.r_neS ?_
  | with_reducible refine Vb.r_revL ?_
  | with_reducible refine Vb.r_isBl ?_
  | with_reducible refine Vb.r_notBl ?_
  | with_reducible refine Vb.r_sl ?_
  | with_reducible refine Vb.r_noP ?_
  | with_reducible refine Vb.r_part ?_
  | with_reducible refine Vb.r_iTup ?_
  | with_reducible refine Vb.r_isN ?_
  | with_reducible refine Vb.r_partI ?_
  | with_reducible refine Vb.r_iSeq ?_
  | with_reducible refine Vb.r_iEnumT ?_
  | with_reducible refine Vb.r_revT ?_
  | (with_reducible refine' Vb.r_lenA ?h1_ ?k_); (case h1_ => assumption)
  | with_reducible refine Vb.r_M1 ?_
  | with_reducible refine Vb.r_M0 ?_
  | with_reducible refine Vb.r_strA ?_
  | with_reducible refine Vb.r_iStr ?_
  | with_reducible refine Vb.f_str ?_
  | with_reducible refine Vb.r_inSg ?_
  | with_reducible refine Vb.r_niSg ?_
  | (with_reducible refine Vb.r_addS ?h1_ ?_); (case h1_ => walk_at "sz")
  | (with_reducible refine Vb.r_cutS ?h1_ ?_); (case h1_ => walk_at "sz")
  | (with_reducible refine Vb.r_lenS ?h1_ ?_); (case h1_ => walk_at "sz")
  | with_reducible refine Vb.r_sfld ?_
  | with_reducible refine Vb.r_tfld ?_
  | with_reducible refine Vb.r_meth ?_
  | with_reducible refine Vb.r_make ?_
  | with_reducible refine Vb.r_methK ?_
  | with_reducible refine Vb.r_listRg ?_
  | with_reducible refine Vb.r_rg1 ?_
  | with_reducible refine Vb.r_rg2 ?_
  | with_reducible refine Vb.r_notN ?_
  | with_reducible refine Vb.r_BM0 ?_
  | with_reducible refine Vb.r_abs ?_
  | with_reducible refine Vb.r_max2 ?_
  | with_reducible refine Vb.r_min2 ?_
  | with_reducible refine Vb.r_int ?_
  | with_reducible refine Vb.r_intB ?_
  | (with_reducible refine' Vb.r_ixL ?h1_ ?h2_ ?k_); (case h1_ => walk_at "hp"); (case h2_ => walk_at "at")
  | (with_reducible refine' Vb.r_ixT ?h1_ ?h2_ ?k_); (case h1_ => walk_at "hp"); (case h2_ => walk_at "at")
  | (with_reducible refine' Vb.r_len ?h1_ ?k_); (case h1_ => walk_at "hp")
  | (with_reducible refine' Vb.r_lenT ?h1_ ?k_); (case h1_ => walk_at "hp")
  | (with_reducible refine' Vb.r_setL ?h1_ ?h2_ ?k_); (case h1_ => walk_at "hp"); (case h2_ => walk_at "at")
  | (with_reducible refine' Vb.r_rev ?h1_ ?k_); (case h1_ => walk_at "hp")
  | (with_reducible refine' Vb.r_isB ?h1_ ?h2_ ?k_); (case h1_ => assumption); (case h2_ => first | exact (rfl : _ = true) | exact (rfl : _ = false) | exact rfl)
  | (with_reducible refine' Vb.r_isI ?h1_ ?h2_ ?k_); (case h1_ => assumption); (case h2_ => first | exact (rfl : _ = true) | exact (rfl : _ = false) | exact rfl)
  | (with_reducible refine' Vb.r_isS ?h1_ ?h2_ ?k_); (case h1_ => assumption); (case h2_ => first | exact (rfl : _ = true) | exact (rfl : _ = false) | exact rfl)
  | (with_reducible refine' Vb.r_isL ?h1_ ?h2_ ?k_); (case h1_ => assumption); (case h2_ => first | exact (rfl : _ = true) | exact (rfl : _ = false) | exact rfl)
  | (with_reducible refine' Vb.r_isT ?h1_ ?h2_ ?k_); (case h1_ => assumption); (case h2_ => first | exact (rfl : _ = true) | exact (rfl : _ = false) | exact rfl)
  | (with_reducible refine Vb.f_rng1 ?h1_ ?h2_ ?_); (case h1_ => walk_at "side"); (case h2_ => walk_at "side")
  | (with_reducible refine Vb.f_rng2 ?h1_ ?_); (case h1_ => walk_at "side4")
  | (with_reducible refine Vb.c_rng1 ?h1_ ?h2_ ?_); (case h1_ => walk_at "side"); (case h2_ => walk_at "side")
  | (with_reducible refine Vb.c_rng2 ?h1_ ?_); (case h1_ => walk_at "side4")
  | (with_reducible refine' Vb.f_list ?h1_ ?k_); (case h1_ => walk_at "hp")
  | (with_reducible refine' Vb.f_tup ?h1_ ?k_); (case h1_ => walk_at "hp")
  | (with_reducible refine' Vb.c_list ?h1_ ?k_); (case h1_ => walk_at "hp")
  | (with_reducible refine' Vb.c_tup ?h1_ ?k_); (case h1_ => walk_at "hp")
  | (with_reducible refine Vb.f_rngW ?h1_ ?_); (case h1_ => walk_at "sideW")
  | (with_reducible refine Vb.c_rngW ?h1_ ?_); (case h1_ => walk_at "sideW")
  | (with_reducible refine' Vb.r_ty ?h1_ ?k_); (case h1_ => walk_at "hp")
  | (with_reducible refine' Vb.r_isXr ?h1_ ?h2_ ?k_); (case h1_ => assumption); (case h2_ => walk_at "xd")
  | (with_reducible refine' Vb.r_isXt ?h1_ ?h2_ ?k_); (case h1_ => assumption); (case h2_ => walk_at "xd")
  | (with_reducible refine Vb.r_xf ?_)
  | (with_reducible refine' Vb.r_atM ?h1_ ?h2_ ?k_); (case h1_ => walk_at "hp"); (case h2_ => exact rfl)
  | (with_reducible refine' Vb.r_fldV ?h1_ ?h2_ ?h3_ ?h4_ ?k_); (case h1_ => walk_at "hp"); (case h2_ => assumption); (case h3_ => assumption); (case h4_ => exact rfl)
  | (with_reducible refine' Vb.r_app ?h1_ ?h2_ ?k_); (case h1_ => walk_at "hp"); (case h2_ => walk_at "side"))
local macro_rules | `(tactic| walk_at "rd") => `(tactic| repeat walk_at "rd1")
local macro_rules | `(tactic| walk_at "side") => `(tactic| first | decide | omega | assumption | (refine Vb.size_lt ?_; (try simp only [List.length_map, List.length_append, List.length_cons, List.length_nil]); omega) | (refine Vb.size_ok ?_; (try simp only [List.length_map, List.length_append, List.length_cons, List.length_nil]); omega) | exact ⟨by decide, by decide +kernel⟩ | (constructor <;> omega) | (refine Or.inl ⟨?_, ?_⟩ <;> omega) | (refine Or.inr ⟨?_, ?_⟩ <;> omega) | (refine Or.inr ⟨?_, ?_⟩ <;> decide) | (refine Or.inl ⟨?_, ?_⟩ <;> decide))
local macro_rules | `(tactic| walk_at "hp") => `(tactic| first
  | assumption
  | exact L2.upd_same
  | ((with_reducible apply Vb.sq_of); walk_at "hp")
  | ((with_reducible apply Vb.st_of); walk_at "hp")
  | ((with_reducible refine' Vb.h_new ?n1_ ?k_); (case n1_ => assumption); (case k_ => walk_at "hp"))
  | ((with_reducible refine' Vb.h_ne ?n1_ ?k_); (case n1_ => assumption); (case k_ => walk_at "hp"))
  | ((with_reducible refine' Vb.h_ne ?n1_ ?k_); (case n1_ => exact Ne.symm (by assumption)); (case k_ => walk_at "hp"))
  | ((with_reducible refine' Vb.h_same ?n1_ ?k_); (case n1_ => assumption); (case k_ => walk_at "hp"))
  | ((with_reducible refine' Vb.h_fr ?n1_ ?n2_ ?k_); (case n1_ => assumption); (case n2_ => assumption); (case k_ => walk_at "hp")))
local macro_rules | `(tactic| walk_at "at") => `(tactic| first | exact Vb.at_lit 0 rfl rfl | exact Vb.at_lit 1 rfl rfl | exact Vb.at_lit 2 rfl rfl | exact Vb.at_lit 3 rfl rfl | exact Vb.at_lit 4 rfl rfl | exact Vb.ix_lit 1 rfl rfl | exact Vb.ix_lit 2 rfl rfl | exact Vb.ix_lit 3 rfl rfl | exact Vb.ix_lit 0 rfl rfl | exact Vb.ix_lit 4 rfl rfl | exact Vb.at_lit _ (by omega) (by assumption))
local macro_rules | `(tactic| walk_at "side4") => `(tactic| (refine ⟨?_, ?_, ?_, ?_⟩ <;> omega))
local macro_rules | `(tactic| walk_at "sideW") => `(tactic| first | (refine Or.inl ⟨?_, ?_, ?_, ?_⟩ <;> omega) | (refine Or.inr ?_; omega) | omega)
local macro_rules | `(tactic| walk_at "xd") => `(tactic| first | exact Or.inl rfl | exact Or.inr ⟨_, _, rfl, by walk_at "hp"⟩)
local macro_rules | `(tactic| walk_at "sm") => `(tactic| first
  | exact L2.Same.refl _
  | assumption
  | ((with_reducible refine' Vb.sm_new ?k_ ?n1_); (case n1_ => assumption); (case k_ => walk_at "sm"))
  | ((with_reducible refine' L2.Same.trans ?k_ ?n1_); (case n1_ => assumption); (case k_ => walk_at "sm"))
  | ((with_reducible refine' Vb.same_mut ?k_ ?n1_); (case n1_ => assumption); (case k_ => walk_at "sm")))
local macro_rules | `(tactic| walk_at "fr") => `(tactic| first
  | exact Vb.Fr.refl _ _
  | assumption
  | ((with_reducible refine' Vb.fr_new ?k_ ?n1_); (case n1_ => assumption); (case k_ => walk_at "fr"))
  | ((with_reducible refine' Vb.Fr.trans ?k_ ?n1_); (case n1_ => assumption); (case k_ => walk_at "fr"))
  | ((with_reducible refine' Vb.fr_same ?k_ ?n1_); (case n1_ => assumption); (case k_ => walk_at "fr")))
local macro_rules | `(tactic| walk_at "st") => `(tactic| first
  | assumption
  | ((with_reducible refine' Vb.st_new ?k_ ?n1_); (case n1_ => assumption); (case k_ => walk_at "st"))
  | ((with_reducible refine' Vb.StoreAt.same ?k_ ?n1_); (case n1_ => assumption); (case k_ => walk_at "st")))
local macro_rules | `(tactic| walk_at "rx1") => `(tactic| first
  | walk_at "rd1"
  | ((with_reducible refine' Vb.r_newO ?h1_ (fun l_ n_ => ?k_)); (case h1_ => exact Vb.size_ok (Nat.le_of_ble_eq_true rfl))))
local macro_rules | `(tactic| walk_at "rx") => `(tactic| repeat walk_at "rx1")
local macro_rules | `(tactic| walk_at "ln") => `(tactic| first
  | (with_reducible assumption)
  | ((try simp only [Vb.len_app, Vb.len_lit, Vb.len_one, String.reduceToList, List.length_cons, List.length_nil] at *); omega))
local macro_rules | `(tactic| walk_at "sz") => `(tactic| (refine Vb.size_ok ?_; (try simp only [Vb.len_app, Vb.len_lit, Vb.len_one, String.reduceToList, List.length_cons, List.length_nil]); omega))

namespace K
open PySem PySem.Spec PyProof.Rows L2
abbrev N__law_mix : List Str := ["number", "turn", "one", "two", "three"]
theorem sc__law_mix : FnScope N__law_mix ["number", "turn"] (defScope s__law_mix) := ⟨rfl, rfl, rfl, by decide +kernel, rfl, by decide +kernel, by decide +kernel⟩
section
variable {P : Program} {w : World} {K : PySem.W.Frag} {mg : Str → Option Value} {base : Heap}
def sp_mix (K : PySem.W.Frag) : Sp := fun vs H Q _ => ∃ a b : Int, vs = [.int a, .int b] ∧ ∀ r : Int, Q (.int r) H
theorem ok_mix (T : Txt K mg) : FnOk P w K mg base (L2N.CX P w) 1 T.f__law_mix T.fd__law_mix ["number", "turn"] (sp_mix K) := by
  refine Vb.okN T.d__law_mix.F sc__law_mix (fun vs H Q E h => ?_) (fun cdv A outer s H vs Q E hr h => ?_)
  · obtain ⟨a, b, rfl, _⟩ := h
    rfl
  · obtain ⟨a, b, rfl, q⟩ := h
    refine ⟨_, (pss_cons (ps_set (i := 2) sc__law_mix.nd rfl (by first | exact Or.inl rfl | exact Or.inr rfl) (pe_op op_mod (pe_callTy Vb.call_int (by rfl) T.n_int (by decide +kernel) (pa_cons (pe_op op_add (pe_op op_add (pe_op op_mul (pv 0) pe_int) (pe_op op_mul (pv 1) pe_int)) pe_int) pa_nil)) pe_int))
      (pss_cons (ps_set (i := 3) sc__law_mix.nd rfl (by first | exact Or.inl rfl | exact Or.inr rfl) (pe_op op_mod (pe_callTy Vb.call_int (by rfl) T.n_int (by decide +kernel) (pa_cons (pe_op op_add (pe_op op_add (pe_op op_mul (pv 2) (pv 2)) (pe_op op_mul (pv 1) pe_int)) pe_int) pa_nil)) pe_int))
      (pss_cons (ps_set (i := 4) sc__law_mix.nd rfl (by first | exact Or.inl rfl | exact Or.inr rfl) (pe_op op_mod (pe_callTy Vb.call_int (by rfl) T.n_int (by decide +kernel) (pa_cons (pe_op op_add (pe_op op_mul (pv 3) (pe_op op_add (pe_op op_fdiv (pv 3) pe_int) pe_int)) (pv 2)) pa_nil)) pe_int))
      (pss_one (ps_ret (pe_op op_fdiv (pv 4) pe_int)))))), ?_⟩
    (change (_ : L2.TS) _ ([some (.int a), some (.int b), none, none, none] : L2.St) _); try dsimp only [L2.cxOf, L2H.cxH]
    walk_at "rd"
    exact q _
theorem use_mix {K : PySem.W.Frag} {a b : Int} {H : Hp} {Q : VK} {E : XK} (h : ∀ r : Int, Q (.int r) H) : sp_mix K [.int a, .int b] H Q E := ⟨a, b, rfl, h⟩
end
end K
namespace K
open PySem PySem.Spec PyProof.Rows L2
abbrev N__law_take : List Str := ["store", "many", "cell", "rest"]
theorem sc__law_take : FnScope N__law_take ["store", "many"] (defScope s__law_take) := ⟨rfl, rfl, rfl, by decide +kernel, rfl, by decide +kernel, by decide +kernel⟩
section
variable {P : Program} {w : World} {K : PySem.W.Frag} {mg : Str → Option Value} {base : Heap}
def sp_take (K : PySem.W.Frag) : Sp := fun vs H Q _ => ∃ (st : Addr) (m : Int), vs = [.ref st, .int m] ∧ Vb.StoreAt H st ∧ m < 1073741824 ∧ ∀ (v : Int) (H' : Hp), 0 ≤ v → (1 < m → v < m) → (m ≤ 1 → v = 0) → Vb.Fr st H H' → Vb.StoreAt H' st → Q (.int v) H'
theorem ok_take (T : Txt K mg) : FnOk P w K mg base (L2N.CX P w) 2 T.f__law_take T.fd__law_take ["store", "many"] (sp_take K) := by
  have G__law_mix := ok_mix (P := P) (w := w) (base := base) T
  refine Vb.okN T.d__law_take.F sc__law_take (fun vs H Q E h => ?_) (fun cdv A outer s H vs Q E hr h => ?_)
  · obtain ⟨a, b, rfl, _⟩ := h
    rfl
  · obtain ⟨st, m, rfl, ⟨l, ns, pos, rest, turn, seed, hl, h1, h2, h3, h4⟩, hm, q⟩ := h
    refine ⟨_, (pss_cons (ps_set (i := 1) sc__law_take.nd rfl (by first | exact Or.inl rfl | exact Or.inr rfl) (pe_callB (Vb.call_max2 rfl) (by rfl) T.n_max (by decide +kernel) (pa_cons pe_int (pa_cons (pv 1) pa_nil))))
      (pss_cons (ps_asg (pe_op op_add (pe_callTy Vb.call_int (by rfl) T.n_int (by decide +kernel) (pa_cons (pe_ix ix_list (pv 0) pe_int (fun _ _ => rfl)) pa_nil)) pe_int) (pg_sub (pv 0) pe_int set_list))
      (pss_cons (ps_if (PW.pt (pw_and (pt_cmpR op_eq (pe_ix ix_list (pv 0) pe_int (fun _ _ => rfl)) pe_int (nomark _)) (pw_and1 (pt_cmpR op_lt (pe_ix ix_list (pv 0) pe_int (fun _ _ => rfl)) (pe_callB Vb.call_len (by rfl) T.n_len (by decide +kernel) (pa_cons (pe_ix ix_list (pv 0) pe_int (fun _ _ => rfl)) pa_nil)) (nomark _))))) (pss_cons (ps_set (i := 2) sc__law_take.nd rfl (by first | exact Or.inl rfl | exact Or.inr rfl) (pe_callTy Vb.call_int (by rfl) T.n_int (by decide +kernel) (pa_cons (pe_ix ix_list (pe_ix ix_list (pv 0) pe_int (fun _ _ => rfl)) (pe_ix ix_list (pv 0) pe_int (fun _ _ => rfl)) (fun _ _ => rfl)) pa_nil)))
      (pss_cons (ps_asg (pe_op op_add (pe_ix ix_list (pv 0) pe_int (fun _ _ => rfl)) pe_int) (pg_sub (pv 0) pe_int set_list))
      (pss_cons (ps_if (pt_cmpR op_lt (pe_callB Vb.call_abs (by rfl) T.n_abs (by decide +kernel) (pa_cons (pv 2) pa_nil)) (pe_op Vb.op_powB pe_int pe_int) (nomark _)) (pss_one (ps_ret (pe_op op_mod (pe_callTy Vb.call_int (by rfl) T.n_int (by decide +kernel) (pa_cons (pe_callS G__law_mix (hr.mono (by first | decide | omega)) (by rfl) T.d__law_mix.g T.d__law_mix.F.kp T.d__law_mix.b (fun σ => L2N.passAt (L2N.takes_of rfl rfl rfl rfl) σ) (pa_cons (pv 2) (pa_cons (pe_ix ix_list (pv 0) pe_int (fun _ _ => rfl)) pa_nil))) pa_nil)) (pv 1)))) pss_nil)
      (pss_one (ps_asg (pe_op op_mod (pe_callB Vb.call_abs (by rfl) T.n_abs (by decide +kernel) (pa_cons (pv 2) pa_nil)) (pe_op Vb.op_powB (pe_op Vb.op_powB pe_int pe_int) pe_int)) (pg_sub (pv 0) pe_int set_list)))))) pss_nil)
      (pss_cons (ps_if (pt_cmpR op_gt (pe_ix ix_list (pv 0) pe_int (fun _ _ => rfl)) pe_int (nomark _)) (pss_cons (ps_set (i := 3) sc__law_take.nd rfl (by first | exact Or.inl rfl | exact Or.inr rfl) (pe_callTy Vb.call_int (by rfl) T.n_int (by decide +kernel) (pa_cons (pe_ix ix_list (pv 0) pe_int (fun _ _ => rfl)) pa_nil)))
      (pss_cons (ps_asg (pe_op op_fdiv (pv 3) (pv 1)) (pg_sub (pv 0) pe_int set_list))
      (pss_one (ps_ret (pe_op op_mod (pv 3) (pv 1)))))) pss_nil)
      (pss_one (ps_ret (pe_op op_mod (pe_callTy Vb.call_int (by rfl) T.n_int (by decide +kernel) (pa_cons (pe_callS G__law_mix (hr.mono (by first | decide | omega)) (by rfl) T.d__law_mix.g T.d__law_mix.F.kp T.d__law_mix.b (fun σ => L2N.passAt (L2N.takes_of rfl rfl rfl rfl) σ) (pa_cons (pe_ix ix_list (pv 0) pe_int (fun _ _ => rfl)) (pa_cons (pe_ix ix_list (pv 0) pe_int (fun _ _ => rfl)) pa_nil))) pa_nil)) (pv 1)))))))), ?_⟩
    (change (_ : L2.TS) _ ([some (.ref st), some (.int m), none, none] : L2.St) _); try dsimp only [L2.cxOf, L2H.cxH]
    walk_at "rd"
    have hd : ∀ {H' : Hp} {t : List V}, H' st = some (.lst (.ref l :: t)) → ∀ (l' : Addr) (r : List V), H st = some (.lst (.ref l' :: r)) → ∃ r', H' st = some (.lst (.ref l' :: r')) := fun e l' r h => by
      rw [h1] at h
      cases h
      exact ⟨_, e⟩
    have hmm : 0 < (if m > 1 then m else 1) := by split <;> omega
    have hm2 : (if m > 1 then m else 1) < 1073741824 := by split <;> omega
    have out : ∀ (z : Int) (H' : Hp), Vb.Fr st H H' → Vb.StoreAt H' st → Q (.int (z % (if m > 1 then m else 1))) H' := fun z H' f1 f2 => by
      have e1 := Int.emod_nonneg z (show (if m > 1 then m else 1) ≠ 0 by omega)
      have e2 := Int.emod_lt_of_pos z hmm
      generalize z % (if m > 1 then m else 1) = r at e1 e2 ⊢
      refine q _ _ e1 (fun h => ?_) (fun h => ?_) f1 f2
      · rw [if_pos h] at e2; exact e2
      · rw [if_neg (by omega)] at e2; omega
    have nz : ∀ z : Int, 0 ≤ z → 0 ≤ z / (if m > 1 then m else 1) := fun z h => Int.ediv_nonneg h (by omega)
    generalize (if m > 1 then m else 1) = mm at hmm hm2 out nz ⊢
    refine Vb.r_ite (fun c1 => ?_) (fun c1 => ?_)
    · walk_at "rd"
      refine Vb.r_ite (fun c2 => ?_) (fun c2 => ?_)
      · walk_at "rd"
        rw [List.length_map] at c2
        have hz : (ns.map V.int)[pos.toNat]? = some (.int ns[pos.toNat]) := Vb.getV (by omega)
        refine Vb.r_ixL (by walk_at "hp") (Vb.at_lit pos.toNat (by omega) hz) ?_
        generalize ns[pos.toNat] = cell
        walk_at "rd"
        refine Vb.r_ite (fun c3 => ?_) (fun c3 => ?_)
        · walk_at "rd"
          refine use_mix fun r => ?_
          walk_at "rd"
          refine out _ _ ⟨fun b o n h => by walk_at "hp", hd L2.upd_same⟩ ⟨l, ns, pos + 1, rest, turn + 1, seed, hl, L2.upd_same, by walk_at "hp", by omega, h4⟩
        · walk_at "rd"
          have hg : 0 ≤ (if cell < 0 then -cell else cell) % (10 ^ Int.toNat 60) ^ Int.toNat 20 := Int.emod_nonneg _ (by decide +kernel)
          generalize (if cell < 0 then -cell else cell) % (10 ^ Int.toNat 60) ^ Int.toNat 20 = gr at hg ⊢
          refine Vb.r_ite (fun c4 => ?_) (fun c4 => ?_)
          · walk_at "rd"
            refine out _ _ ⟨fun b o n h => by walk_at "hp", hd L2.upd_same⟩ ⟨l, ns, pos + 1, gr / mm, turn + 1, seed, hl, L2.upd_same, by walk_at "hp", by omega, nz _ hg⟩
          · walk_at "rd"
            refine use_mix fun r => ?_
            walk_at "rd"
            refine out _ _ ⟨fun b o n h => by walk_at "hp", hd L2.upd_same⟩ ⟨l, ns, pos + 1, gr, turn + 1, seed, hl, L2.upd_same, by walk_at "hp", by omega, hg⟩
      · walk_at "rd"
        refine Vb.r_ite (fun c3 => absurd c3 (by omega)) (fun c3 => ?_)
        walk_at "rd"
        refine use_mix fun r => ?_
        walk_at "rd"
        refine out _ _ ⟨fun b o n h => by walk_at "hp", hd L2.upd_same⟩ ⟨l, ns, pos, rest, turn + 1, seed, hl, L2.upd_same, by walk_at "hp", by omega, h4⟩
    · walk_at "rd"
      refine Vb.r_ite (fun c3 => ?_) (fun c3 => absurd c3 (by omega))
      walk_at "rd"
      refine out _ _ ⟨fun b o n h => by walk_at "hp", hd L2.upd_same⟩ ⟨l, ns, pos, rest / mm, turn + 1, seed, hl, L2.upd_same, by walk_at "hp", h3, nz _ h4⟩
theorem use_take {st : Addr} {m : Int} {H : Hp} {Q : VK} {E : XK} (h1 : Vb.StoreAt H st) (h2 : m < 1073741824) (h : ∀ (v : Int) (H' : Hp), 0 ≤ v → (1 < m → v < m) → (m ≤ 1 → v = 0) → Vb.Fr st H H' → Vb.StoreAt H' st → Q (.int v) H') : sp_take K [.ref st, .int m] H Q E := ⟨st, m, rfl, h1, h2, h⟩
end
end K
namespace K
open PySem PySem.Spec PyProof.Rows L2


abbrev N__law_same : List Str := ["actual", "expected", "fitting", "k"]
theorem sc__law_same : FnScope N__law_same ["actual", "expected"] (defScope s__law_same) := ⟨rfl, rfl, rfl, by decide +kernel, rfl, by decide +kernel, by decide +kernel⟩
section
variable {P : Program} {w : World} {K : PySem.W.Frag} {mg : Str → Option Value} {base : Heap}
/-- two values of one piece of data are told to be the same; n: how deep it is -/
def sp_same (K : PySem.W.Frag) : Nat → Sp
  | 0 => fun _ _ _ _ => False
  | n + 1 => fun vs H Q _ => ∃ (v u : V) (d : PyData), vs = [v, u] ∧ Dp K H v d ∧ Dp K H u d ∧ Vb.DOk (n + 1) d ∧ Q (.bl true) H
theorem use_same {n : Nat} {v u : V} {H : Hp} {Q : VK} {E : XK} (d : PyData) (h1 : Dp K H v d) (h2 : Dp K H u d) (h3 : Vb.DOk (n + 1) d) (q : Q (.bl true) H) : sp_same K (n + 1) [v, u] H Q E := ⟨v, u, d, rfl, h1, h2, h3, q⟩
/-- the loop over the items -/
theorem same_items {n : Nat} {H : Hp} {xs ys : List V} {ds : List PyData} (a : DpAll K H xs ds) (b : DpAll K H ys ds) (h : ∀ d ∈ ds, Vb.DOk n d) {i : Nat} (hi : i < ds.length) : ∃ x y d, xs[i]? = some x ∧ ys[i]? = some y ∧ Dp K H x d ∧ Dp K H y d ∧ Vb.DOk n d := by
  obtain ⟨x, e1, h1⟩ := Vb.dpa_at a (List.getElem?_eq_getElem hi)
  obtain ⟨y, e2, h2⟩ := Vb.dpa_at b (List.getElem?_eq_getElem hi)
  exact ⟨x, y, ds[i], e1, e2, h1, h2, h _ (List.getElem_mem hi)⟩
theorem not_non {H : Hp} {v : V} {d : PyData} (h : Dp K H v d) (hd : d ≠ .none) : decide (v = .non) = false := by
  cases h with
  | non => exact absurd rfl hd
  | _ => rfl
theorem ok_same (T : Txt K mg) : ∀ n, FnOk P w K mg base (L2N.CX P w) (n + 1) T.f__law_same T.fd__law_same ["actual", "expected"] (sp_same K n)
  | 0 => ⟨fun _ _ _ _ h => h.elim, fun _ _ _ _ _ _ _ _ _ _ _ _ _ h => h.elim⟩
  | n + 1 => by
    have G__law_same := ok_same T n
    refine Vb.okN T.d__law_same.F sc__law_same (fun vs H Q E h => ?_) (fun cdv A outer s H vs Q E hr h => ?_)
    · obtain ⟨v, u, d, rfl, _⟩ := h
      rfl
    · obtain ⟨v, u, d, rfl, h1, h2, h3, q⟩ := h
      refine ⟨_, (pss_cons (ps_if (PW.pt (pw_or (pt_cmpR Vb.op_isN (pv 1) pe_non (nomark _)) (pw_or1 (pt_cmpR Vb.op_isN (pv 0) pe_non (nomark _))))) (pss_one (ps_ret (pe_and (pe_cmpR Vb.op_isN (pv 1) pe_non (nomark _)) (pe_one (pe_cmpR Vb.op_isN (pv 0) pe_non (nomark _)))))) pss_nil)
      (pss_cons (ps_if (PW.pt (pw_or (pt_val (pe_callB call_isi (by rfl) T.n_isinstance (by decide +kernel) (pa_cons (pv 1) (pa_cons (pe_bltn (v := .ty "bool") (by rfl) T.n_bool (by decide +kernel) rfl) pa_nil)))) (pw_or1 (pt_val (pe_callB call_isi (by rfl) T.n_isinstance (by decide +kernel) (pa_cons (pv 0) (pa_cons (pe_bltn (v := .ty "bool") (by rfl) T.n_bool (by decide +kernel) rfl) pa_nil))))))) (pss_one (ps_ret (pe_and (pe_callB call_isi (by rfl) T.n_isinstance (by decide +kernel) (pa_cons (pv 1) (pa_cons (pe_bltn (v := .ty "bool") (by rfl) T.n_bool (by decide +kernel) rfl) pa_nil))) (pe_and (pe_callB call_isi (by rfl) T.n_isinstance (by decide +kernel) (pa_cons (pv 0) (pa_cons (pe_bltn (v := .ty "bool") (by rfl) T.n_bool (by decide +kernel) rfl) pa_nil))) (pe_one (pe_cmpR op_eq (pv 0) (pv 1) (nomark _))))))) pss_nil)
      (pss_cons (ps_if (pt_val (pe_callB call_isi (by rfl) T.n_isinstance (by decide +kernel) (pa_cons (pv 1) (pa_cons (pe_bltn (v := .ty "int") (by rfl) T.n_int (by decide +kernel) rfl) pa_nil)))) (pss_one (ps_ret (pe_and (pe_callB call_isi (by rfl) T.n_isinstance (by decide +kernel) (pa_cons (pv 0) (pa_cons (pe_bltn (v := .ty "int") (by rfl) T.n_int (by decide +kernel) rfl) pa_nil))) (pe_one (pe_cmpR op_eq (pv 0) (pv 1) (nomark _)))))) pss_nil)
      (pss_cons (ps_if (pt_val (pe_callB call_isi (by rfl) T.n_isinstance (by decide +kernel) (pa_cons (pv 1) (pa_cons (pe_bltn (v := .ty "str") (by rfl) T.n_str (by decide +kernel) rfl) pa_nil)))) (pss_one (ps_ret (pe_and (pe_callB call_isi (by rfl) T.n_isinstance (by decide +kernel) (pa_cons (pv 0) (pa_cons (pe_bltn (v := .ty "str") (by rfl) T.n_str (by decide +kernel) rfl) pa_nil))) (pe_one (pe_cmpR op_eq (pv 0) (pv 1) (nomark _)))))) pss_nil)
      (pss_cons (ps_if (pt_val (pe_callB call_isi (by rfl) T.n_isinstance (by decide +kernel) (pa_cons (pv 1) (pa_cons (pe_bltn (v := .ty "list") (by rfl) T.n_list (by decide +kernel) rfl) pa_nil)))) (pss_one (ps_set (i := 2) sc__law_same.nd rfl (by first | exact Or.inl rfl | exact Or.inr rfl) (pe_callB call_isi (by rfl) T.n_isinstance (by decide +kernel) (pa_cons (pv 0) (pa_cons (pe_bltn (v := .ty "list") (by rfl) T.n_list (by decide +kernel) rfl) pa_nil))))) (pss_one (ps_set (i := 2) sc__law_same.nd rfl (by first | exact Or.inl rfl | exact Or.inr rfl) (pe_and (pe_callB call_isi (by rfl) T.n_isinstance (by decide +kernel) (pa_cons (pv 1) (pa_cons (pe_bltn (v := .ty "tuple") (by rfl) T.n_tuple (by decide +kernel) rfl) pa_nil))) (pe_one (pe_callB call_isi (by rfl) T.n_isinstance (by decide +kernel) (pa_cons (pv 0) (pa_cons (pe_bltn (v := .ty "tuple") (by rfl) T.n_tuple (by decide +kernel) rfl) pa_nil))))))))
      (pss_cons (ps_if (PW.pt (pw_or (pt_not (pt_val (pv 2))) (pw_or1 (pt_cmpR op_ne (pe_callB Vb.call_len (by rfl) T.n_len (by decide +kernel) (pa_cons (pv 0) pa_nil)) (pe_callB Vb.call_len (by rfl) T.n_len (by decide +kernel) (pa_cons (pv 1) pa_nil)) (nomark _))))) (pss_one (ps_ret pe_bl)) pss_nil)
      (pss_cons (ps_for (L2.passes_of rfl) rfl (pi_range1 rfl T.n_range (pa_cons (pe_callB Vb.call_len (by rfl) T.n_len (by decide +kernel) (pa_cons (pv 1) pa_nil)) pa_nil)) (pg_name (i := 3) sc__law_same.nd rfl (by first | exact Or.inl rfl | exact Or.inr rfl))
        (pss_one (ps_if (pt_not (pt_val (pe_callS G__law_same (hr.mono (by first | decide | omega)) (by rfl) T.d__law_same.g T.d__law_same.F.kp T.d__law_same.b (fun σ => L2N.passAt (L2N.takes_of rfl rfl rfl rfl) σ) (pa_cons (pe_ix ix_seq (pv 0) (pv 3) (fun _ _ => rfl)) (pa_cons (pe_ix ix_seq (pv 1) (pv 3) (fun _ _ => rfl)) pa_nil))))) (pss_one (ps_ret pe_bl)) pss_nil)))
      (pss_one (ps_ret pe_bl))))))))), ?_⟩
      (change (_ : L2.TS) _ ([some (v), some (u), none, none] : L2.St) _); try dsimp only [L2.cxOf, L2H.cxH]
      walk_at "rd"
      by_cases hn : d = .none
      · subst hn
        refine Vb.r_ite (fun _ => ?_) (fun c => absurd (Vb.is_non h2) c)
        walk_at "rd"
        refine Vb.r_ite (fun _ => ?_) (fun c => absurd (Vb.is_non h2) c)
        walk_at "rd"
        rw [decide_eq_true (Vb.is_non h1)]
        exact q
      refine Vb.r_ite (fun c => absurd c (Vb.not_non h2 hn)) (fun _ => ?_)
      walk_at "rd"
      refine Vb.r_ite (fun c => absurd c (Vb.not_non h1 hn)) (fun _ => ?_)
      cases d with
      | none => exact absurd rfl hn
      | bool b =>
        walk_at "rd"
        cases h1; cases h2
        refine ⟨rfl, ?_⟩
        rw [decide_eq_true rfl]
        exact q
      | int i =>
        walk_at "rd"
        cases h1; cases h2
        walk_at "rd"
        rw [decide_eq_true rfl]
        exact q
      | str x =>
        walk_at "rd"
        cases h1; cases h2
        refine ⟨rfl, ?_⟩
        rw [decide_eq_true rfl]
        exact q
      | list ds =>
        walk_at "rd"
        cases h1 with
        | @lst a xs _ s1 a1 =>
        cases h2 with
        | @lst b ys _ s2 a2 =>
        have l1 := Vb.dpa_len a1
        have l2 := Vb.dpa_len a2
        have hl := h3.1
        walk_at "rd"
        refine Vb.r_iteN (fun c => absurd (by omega) c) (fun _ => ?_)
        walk_at "rd"
        refine Vb.lp_range (fun i σ H' => i ≤ ds.length ∧ H' = H ∧ ∃ y, σ = [some (.ref a), some (.ref b), some (.bl true), y]) ⟨Nat.zero_le _, rfl, none, rfl⟩ ?_ ?_
        · rintro i σ H' hi ⟨_, rfl, y, rfl⟩
          have hi' : i < ds.length := by omega
          obtain ⟨x1, y1, d1, e1, e2, g1, g2, g3⟩ := same_items a1 a2 h3.2 hi'
          walk_at "rd"
          refine Vb.r_ixSL s1 (Vb.at_lit i (by omega) e1) ?_
          walk_at "rd"
          refine Vb.r_ixSL s2 (Vb.at_lit i (by omega) e2) ?_
          walk_at "rd"
          cases n with
          | zero => exact g3.elim
          | succ n =>
            refine use_same d1 g1 g2 g3 ?_
            walk_at "rd"
            exact ⟨by omega, rfl, _, rfl⟩
        · rintro σ H' ⟨_, rfl, y, rfl⟩
          walk_at "rd"
          exact q
      | tuple ds =>
        walk_at "rd"
        cases h1 with
        | @tup a xs _ s1 a1 =>
        cases h2 with
        | @tup b ys _ s2 a2 =>
        have l1 := Vb.dpa_len a1
        have l2 := Vb.dpa_len a2
        have hl := h3.1
        walk_at "rd"
        refine Vb.r_iteN (fun c => absurd (by omega) c) (fun _ => ?_)
        walk_at "rd"
        refine Vb.lp_range (fun i σ H' => i ≤ ds.length ∧ H' = H ∧ ∃ y, σ = [some (.ref a), some (.ref b), some (.bl true), y]) ⟨Nat.zero_le _, rfl, none, rfl⟩ ?_ ?_
        · rintro i σ H' hi ⟨_, rfl, y, rfl⟩
          have hi' : i < ds.length := by omega
          obtain ⟨x1, y1, d1, e1, e2, g1, g2, g3⟩ := same_items a1 a2 h3.2 hi'
          walk_at "rd"
          refine Vb.r_ixST s1 (Vb.at_lit i (by omega) e1) ?_
          walk_at "rd"
          refine Vb.r_ixST s2 (Vb.at_lit i (by omega) e2) ?_
          walk_at "rd"
          cases n with
          | zero => exact g3.elim
          | succ n =>
            refine use_same d1 g1 g2 g3 ?_
            walk_at "rd"
            exact ⟨by omega, rfl, _, rfl⟩
        · rintro σ H' ⟨_, rfl, y, rfl⟩
          walk_at "rd"
          exact q
      | dict kvs => cases h1
theorem okh_same (T : Txt K mg) : ∀ n, L2H.FnH P w K mg base CX0 (n + 1) T.f__law_same T.fd__law_same ["actual", "expected"] (sp_same K n)
  | 0 => ⟨fun _ _ _ _ h => h.elim, fun _ _ _ _ _ _ _ _ _ _ _ _ _ _ _ _ h => h.elim⟩
  | n + 1 => by
    have GH__law_same := okh_same T n
    refine Vb.okH T.d__law_same.F sc__law_same (fun vs H Q E h => ?_) (fun cdv A outer s H vs Q E p hot hr h => ?_)
    · obtain ⟨v, u, d, rfl, _⟩ := h
      rfl
    · obtain ⟨v, u, d, rfl, h1, h2, h3, q⟩ := h
      have hotc : L2H.HotC (L2H.cxH CX0 P w K mg base N__law_same "_law_same" (defScope s__law_same) T.f__law_same cdv A outer s H E p) := ⟨p, hot, List.mem_singleton.mpr rfl⟩
      refine ⟨_, (pss_cons (ps_if (PW.pt (pw_or (pt_cmpR Vb.op_isN (pv 1) pe_non (nomark _)) (pw_or1 (pt_cmpR Vb.op_isN (pv 0) pe_non (nomark _))))) (pss_one (ps_ret (pe_and (pe_cmpR Vb.op_isN (pv 1) pe_non (nomark _)) (pe_one (pe_cmpR Vb.op_isN (pv 0) pe_non (nomark _)))))) pss_nil)
      (pss_cons (ps_if (PW.pt (pw_or (pt_val (pe_callB call_isi (by rfl) T.n_isinstance (by decide +kernel) (pa_cons (pv 1) (pa_cons (pe_bltn (v := .ty "bool") (by rfl) T.n_bool (by decide +kernel) rfl) pa_nil)))) (pw_or1 (pt_val (pe_callB call_isi (by rfl) T.n_isinstance (by decide +kernel) (pa_cons (pv 0) (pa_cons (pe_bltn (v := .ty "bool") (by rfl) T.n_bool (by decide +kernel) rfl) pa_nil))))))) (pss_one (ps_ret (pe_and (pe_callB call_isi (by rfl) T.n_isinstance (by decide +kernel) (pa_cons (pv 1) (pa_cons (pe_bltn (v := .ty "bool") (by rfl) T.n_bool (by decide +kernel) rfl) pa_nil))) (pe_and (pe_callB call_isi (by rfl) T.n_isinstance (by decide +kernel) (pa_cons (pv 0) (pa_cons (pe_bltn (v := .ty "bool") (by rfl) T.n_bool (by decide +kernel) rfl) pa_nil))) (pe_one (pe_cmpR op_eq (pv 0) (pv 1) (nomark _))))))) pss_nil)
      (pss_cons (ps_if (pt_val (pe_callB call_isi (by rfl) T.n_isinstance (by decide +kernel) (pa_cons (pv 1) (pa_cons (pe_bltn (v := .ty "int") (by rfl) T.n_int (by decide +kernel) rfl) pa_nil)))) (pss_one (ps_ret (pe_and (pe_callB call_isi (by rfl) T.n_isinstance (by decide +kernel) (pa_cons (pv 0) (pa_cons (pe_bltn (v := .ty "int") (by rfl) T.n_int (by decide +kernel) rfl) pa_nil))) (pe_one (pe_cmpR op_eq (pv 0) (pv 1) (nomark _)))))) pss_nil)
      (pss_cons (ps_if (pt_val (pe_callB call_isi (by rfl) T.n_isinstance (by decide +kernel) (pa_cons (pv 1) (pa_cons (pe_bltn (v := .ty "str") (by rfl) T.n_str (by decide +kernel) rfl) pa_nil)))) (pss_one (ps_ret (pe_and (pe_callB call_isi (by rfl) T.n_isinstance (by decide +kernel) (pa_cons (pv 0) (pa_cons (pe_bltn (v := .ty "str") (by rfl) T.n_str (by decide +kernel) rfl) pa_nil))) (pe_one (pe_cmpR op_eq (pv 0) (pv 1) (nomark _)))))) pss_nil)
      (pss_cons (ps_if (pt_val (pe_callB call_isi (by rfl) T.n_isinstance (by decide +kernel) (pa_cons (pv 1) (pa_cons (pe_bltn (v := .ty "list") (by rfl) T.n_list (by decide +kernel) rfl) pa_nil)))) (pss_one (ps_set (i := 2) sc__law_same.nd rfl (by first | exact Or.inl rfl | exact Or.inr rfl) (pe_callB call_isi (by rfl) T.n_isinstance (by decide +kernel) (pa_cons (pv 0) (pa_cons (pe_bltn (v := .ty "list") (by rfl) T.n_list (by decide +kernel) rfl) pa_nil))))) (pss_one (ps_set (i := 2) sc__law_same.nd rfl (by first | exact Or.inl rfl | exact Or.inr rfl) (pe_and (pe_callB call_isi (by rfl) T.n_isinstance (by decide +kernel) (pa_cons (pv 1) (pa_cons (pe_bltn (v := .ty "tuple") (by rfl) T.n_tuple (by decide +kernel) rfl) pa_nil))) (pe_one (pe_callB call_isi (by rfl) T.n_isinstance (by decide +kernel) (pa_cons (pv 0) (pa_cons (pe_bltn (v := .ty "tuple") (by rfl) T.n_tuple (by decide +kernel) rfl) pa_nil))))))))
      (pss_cons (ps_if (PW.pt (pw_or (pt_not (pt_val (pv 2))) (pw_or1 (pt_cmpR op_ne (pe_callB Vb.call_len (by rfl) T.n_len (by decide +kernel) (pa_cons (pv 0) pa_nil)) (pe_callB Vb.call_len (by rfl) T.n_len (by decide +kernel) (pa_cons (pv 1) pa_nil)) (nomark _))))) (pss_one (ps_ret pe_bl)) pss_nil)
      (pss_cons (L2H.ps_forH (L2.passes_of rfl) hotc (L2H.pi_range1H rfl T.n_range (pa_cons (pe_callB Vb.call_len (by rfl) T.n_len (by decide +kernel) (pa_cons (pv 1) pa_nil)) pa_nil)) (pg_name (i := 3) sc__law_same.nd rfl (by first | exact Or.inl rfl | exact Or.inr rfl))
        (pss_one (ps_if (pt_not (pt_val (L2H.pe_callH GH__law_same (hr.mono (by first | decide | omega)) hotc rfl T.d__law_same.g T.d__law_same.F.kp T.d__law_same.b (fun σ => Vb.passH) (pa_cons (pe_ix ix_seq (pv 0) (pv 3) (fun _ _ => rfl)) (pa_cons (pe_ix ix_seq (pv 1) (pv 3) (fun _ _ => rfl)) pa_nil))))) (pss_one (ps_ret pe_bl)) pss_nil)))
      (pss_one (ps_ret pe_bl))))))))), ?_⟩
      (change (_ : L2.TS) _ ([some (v), some (u), none, none] : L2.St) _); try dsimp only [L2.cxOf, L2H.cxH]
      walk_at "rd"
      by_cases hn : d = .none
      · subst hn
        refine Vb.r_ite (fun _ => ?_) (fun c => absurd (Vb.is_non h2) c)
        walk_at "rd"
        refine Vb.r_ite (fun _ => ?_) (fun c => absurd (Vb.is_non h2) c)
        walk_at "rd"
        rw [decide_eq_true (Vb.is_non h1)]
        exact q
      refine Vb.r_ite (fun c => absurd c (Vb.not_non h2 hn)) (fun _ => ?_)
      walk_at "rd"
      refine Vb.r_ite (fun c => absurd c (Vb.not_non h1 hn)) (fun _ => ?_)
      cases d with
      | none => exact absurd rfl hn
      | bool b =>
        walk_at "rd"
        cases h1; cases h2
        refine ⟨rfl, ?_⟩
        rw [decide_eq_true rfl]
        exact q
      | int i =>
        walk_at "rd"
        cases h1; cases h2
        walk_at "rd"
        rw [decide_eq_true rfl]
        exact q
      | str x =>
        walk_at "rd"
        cases h1; cases h2
        refine ⟨rfl, ?_⟩
        rw [decide_eq_true rfl]
        exact q
      | list ds =>
        walk_at "rd"
        cases h1 with
        | @lst a xs _ s1 a1 =>
        cases h2 with
        | @lst b ys _ s2 a2 =>
        have l1 := Vb.dpa_len a1
        have l2 := Vb.dpa_len a2
        have hl := h3.1
        walk_at "rd"
        refine Vb.r_iteN (fun c => absurd (by omega) c) (fun _ => ?_)
        walk_at "rd"
        refine Vb.lp_range (fun i σ H' => i ≤ ds.length ∧ H' = H ∧ ∃ y, σ = [some (.ref a), some (.ref b), some (.bl true), y]) ⟨Nat.zero_le _, rfl, none, rfl⟩ ?_ ?_
        · rintro i σ H' hi ⟨_, rfl, y, rfl⟩
          have hi' : i < ds.length := by omega
          obtain ⟨x1, y1, d1, e1, e2, g1, g2, g3⟩ := same_items a1 a2 h3.2 hi'
          walk_at "rd"
          refine Vb.r_ixSL s1 (Vb.at_lit i (by omega) e1) ?_
          walk_at "rd"
          refine Vb.r_ixSL s2 (Vb.at_lit i (by omega) e2) ?_
          walk_at "rd"
          cases n with
          | zero => exact g3.elim
          | succ n =>
            refine use_same d1 g1 g2 g3 ?_
            walk_at "rd"
            exact ⟨by omega, rfl, _, rfl⟩
        · rintro σ H' ⟨_, rfl, y, rfl⟩
          walk_at "rd"
          exact q
      | tuple ds =>
        walk_at "rd"
        cases h1 with
        | @tup a xs _ s1 a1 =>
        cases h2 with
        | @tup b ys _ s2 a2 =>
        have l1 := Vb.dpa_len a1
        have l2 := Vb.dpa_len a2
        have hl := h3.1
        walk_at "rd"
        refine Vb.r_iteN (fun c => absurd (by omega) c) (fun _ => ?_)
        walk_at "rd"
        refine Vb.lp_range (fun i σ H' => i ≤ ds.length ∧ H' = H ∧ ∃ y, σ = [some (.ref a), some (.ref b), some (.bl true), y]) ⟨Nat.zero_le _, rfl, none, rfl⟩ ?_ ?_
        · rintro i σ H' hi ⟨_, rfl, y, rfl⟩
          have hi' : i < ds.length := by omega
          obtain ⟨x1, y1, d1, e1, e2, g1, g2, g3⟩ := same_items a1 a2 h3.2 hi'
          walk_at "rd"
          refine Vb.r_ixST s1 (Vb.at_lit i (by omega) e1) ?_
          walk_at "rd"
          refine Vb.r_ixST s2 (Vb.at_lit i (by omega) e2) ?_
          walk_at "rd"
          cases n with
          | zero => exact g3.elim
          | succ n =>
            refine use_same d1 g1 g2 g3 ?_
            walk_at "rd"
            exact ⟨by omega, rfl, _, rfl⟩
        · rintro σ H' ⟨_, rfl, y, rfl⟩
          walk_at "rd"
          exact q
      | dict kvs => cases h1
end
end K
namespace K
open PySem PySem.Spec PyProof.Rows L2

abbrev N__law_copy : List Str := ["value", "item"]
theorem sc__law_copy : FnScope N__law_copy ["value"] (defScope s__law_copy) := ⟨rfl, rfl, rfl, by decide +kernel, rfl, by decide +kernel, by decide +kernel⟩
section
variable {P : Program} {w : World} {K : PySem.W.Frag} {mg : Str → Option Value} {base : Heap}
/-- a copy: the same data; what it is made of is new, or was there but for Z -/
def sp_copy (K : PySem.W.Frag) : Nat → Sp
  | 0 => fun _ _ _ _ => False
  | n + 1 => fun vs H Q _ => ∃ (v : V) (d : PyData) (Z : List Addr), vs = [v] ∧ Vb.Trk Z H ∧ Dp K (Vb.offs Z H) v d ∧ Vb.DOk (n + 1) d ∧ ∀ (v' : V) (H' : Hp), Same H H' → Dp K (Vb.offs Z H') v' d → Q v' H'
theorem ok_copy (T : Txt K mg) : ∀ n, FnOk P w K mg base (L2N.CX P w) (n + 1) T.f__law_copy T.fd__law_copy ["value"] (sp_copy K n)
  | 0 => ⟨fun _ _ _ _ h => h.elim, fun _ _ _ _ _ _ _ _ _ _ _ _ _ h => h.elim⟩
  | n + 1 => by
    have G__law_copy := ok_copy T n
    refine Vb.okN T.d__law_copy.F sc__law_copy (fun vs H Q E h => ?_) (fun cdv A outer s H vs Q E hr h => ?_)
    · obtain ⟨v, d, Z, rfl, _⟩ := h
      rfl
    · obtain ⟨v, d, Z, rfl, t, h1, h3, q⟩ := h
      have h2 := Vb.dp_off h1
      refine ⟨_, (pss_cons (ps_if (pt_val (pe_callB call_isi (by rfl) T.n_isinstance (by decide +kernel) (pa_cons (pv 0) (pa_cons (pe_bltn (v := .ty "list") (by rfl) T.n_list (by decide +kernel) rfl) pa_nil)))) (pss_one (ps_ret (pe_lc (own := [("item", 1)]) (g := gName 1) (tt := tYes) rfl sc__law_copy.nd (pi_list (pv 0)) (blkOk_by (own := [("item", 1)]) (N := N__law_copy) (sc := defScope s__law_copy) (by decide +kernel)) (fun _ _ _ _ _ => (pg_name (i := 1) sc__law_copy.nd rfl (by first | exact Or.inl rfl | exact Or.inr rfl))) (fun _ _ _ _ _ => pts_nil) (fun _ _ _ _ _ => (pe_call G__law_copy (hr.mono (by first | decide | omega)) (by rfl) T.d__law_copy.g T.d__law_copy.F.kp T.d__law_copy.b .nil Vb.pass5 (pa_cons (pv 1) pa_nil)))))) pss_nil)
      (pss_cons (ps_if (pt_val (pe_callB call_isi (by rfl) T.n_isinstance (by decide +kernel) (pa_cons (pv 0) (pa_cons (pe_bltn (v := .ty "tuple") (by rfl) T.n_tuple (by decide +kernel) rfl) pa_nil)))) (pss_one (ps_ret (pe_callTy Vb.call_tuple (by rfl) T.n_tuple (by decide +kernel) (pa_cons (pe_lc (own := [("item", 1)]) (g := gName 1) (tt := tYes) rfl sc__law_copy.nd (pi_tup (pv 0)) (blkOk_by (own := [("item", 1)]) (N := N__law_copy) (sc := defScope s__law_copy) (by decide +kernel)) (fun _ _ _ _ _ => (pg_name (i := 1) sc__law_copy.nd rfl (by first | exact Or.inl rfl | exact Or.inr rfl))) (fun _ _ _ _ _ => pts_nil) (fun _ _ _ _ _ => (pe_call G__law_copy (hr.mono (by first | decide | omega)) (by rfl) T.d__law_copy.g T.d__law_copy.F.kp T.d__law_copy.b .nil Vb.pass5 (pa_cons (pv 1) pa_nil)))) pa_nil)))) pss_nil)
      (pss_one (ps_ret (pv 0))))), ?_⟩
      (change (_ : L2.TS) _ ([some (v), none] : L2.St) _); try dsimp only [L2.cxOf, L2H.cxH]
      cases d with
      | none =>
        walk_at "rd"
        exact q _ _ (Same.refl _) h1
      | bool b =>
        walk_at "rd"
        exact q _ _ (Same.refl _) h1
      | int i =>
        walk_at "rd"
        exact q _ _ (Same.refl _) h1
      | str x =>
        walk_at "rd"
        exact q _ _ (Same.refl _) h1
      | dict kvs => cases h1
      | list ds =>
        walk_at "rd"
        cases h1 with
        | @lst a xs _ s1 a1 =>
        have s2 : SqL K H a xs := Vb.offs_sub.seq s1
        have l1 := Vb.dpa_len a1
        have hl := h3.1
        walk_at "rd"
        intro D hD
        have hDZ := t.new hD
        refine Vb.lcw_list (xs := xs) (fun i H' => i ≤ ds.length ∧ Same H H' ∧ ∃ acc, H' D = some (.lst acc) ∧ acc.length = i ∧ DpAll K (Vb.offs (D :: Z) H') acc (ds.take i)) ⟨Nat.zero_le _, Vb.same_new hD, [], upd_same, rfl, .nil⟩ (fun x => rfl) (fun i H' _ p => p.2.1.seq s2) ?_ ?_
        · rintro i x H' hi ⟨_, e, acc, ha, la, da⟩
          obtain ⟨d, hd, hx⟩ := Vb.dpa_get a1 hi
          have hi' : i < ds.length := (List.getElem?_eq_some_iff.mp hd).1
          walk_at "rd"
          have hok := h3.2 d (List.mem_of_getElem? hd)
          cases n with
          | zero => exact hok.elim
          | succ n =>
            refine ⟨x, d, D :: Z, rfl, fun z m => ?_, Vb.dp_same (Vb.offs_same e) _ _ (Vb.dp_same (Vb.offs_new hD) _ _ hx), hok, fun v' H2 e2 hv => ?_⟩
            · rcases List.mem_cons.mp m with rfl | m
              · exact ⟨_, ha⟩
              · exact t.same e z m
            · refine ⟨acc, e2 _ _ ha, Vb.size_lt (by omega), by omega, Vb.same_mut (e.trans e2) hD, acc ++ [v'], upd_same, by rw [List.length_append, la]; rfl, ?_⟩
              have e3 : ds.take (i + 1) = ds.take i ++ [d] := by rw [List.take_add_one, hd]; rfl
              rw [e3]
              exact Vb.dpa_same Vb.offs_upd _ _ (Vb.dpa_app (Vb.dpa_same (Vb.offs_same e2) _ _ da) (.cons hv .nil))
        · rintro H' ⟨_, e, acc, ha, la, da⟩
          rw [List.take_of_length_le (by omega)] at da
          exact q _ _ e (.lst (Vb.sq_of (Vb.offs_of hDZ ha)) (Vb.dpa_same Vb.offs_more _ _ da))
      | tuple ds =>
        walk_at "rd"
        cases h1 with
        | @tup a xs _ s1 a1 =>
        have s2 : SqT K H a xs := Vb.same_sqt Vb.offs_sub s1
        have l1 := Vb.dpa_len a1
        have hl := h3.1
        walk_at "rd"
        intro D hD
        have hDZ := t.new hD
        refine Vb.lcw_tup (xs := xs) (fun i H' => i ≤ ds.length ∧ Same H H' ∧ ∃ acc, H' D = some (.lst acc) ∧ acc.length = i ∧ DpAll K (Vb.offs (D :: Z) H') acc (ds.take i)) ⟨Nat.zero_le _, Vb.same_new hD, [], upd_same, rfl, .nil⟩ (fun x => rfl) (fun i H' _ p => Vb.same_sqt p.2.1 s2) ?_ ?_
        · rintro i x H' hi ⟨_, e, acc, ha, la, da⟩
          obtain ⟨d, hd, hx⟩ := Vb.dpa_get a1 hi
          have hi' : i < ds.length := (List.getElem?_eq_some_iff.mp hd).1
          walk_at "rd"
          have hok := h3.2 d (List.mem_of_getElem? hd)
          cases n with
          | zero => exact hok.elim
          | succ n =>
            refine ⟨x, d, D :: Z, rfl, fun z m => ?_, Vb.dp_same (Vb.offs_same e) _ _ (Vb.dp_same (Vb.offs_new hD) _ _ hx), hok, fun v' H2 e2 hv => ?_⟩
            · rcases List.mem_cons.mp m with rfl | m
              · exact ⟨_, ha⟩
              · exact t.same e z m
            · refine ⟨acc, e2 _ _ ha, Vb.size_lt (by omega), by omega, Vb.same_mut (e.trans e2) hD, acc ++ [v'], upd_same, by rw [List.length_append, la]; rfl, ?_⟩
              have e3 : ds.take (i + 1) = ds.take i ++ [d] := by rw [List.take_add_one, hd]; rfl
              rw [e3]
              exact Vb.dpa_same Vb.offs_upd _ _ (Vb.dpa_app (Vb.dpa_same (Vb.offs_same e2) _ _ da) (.cons hv .nil))
        · rintro H' ⟨_, e, acc, ha, la, da⟩
          rw [List.take_of_length_le (by omega)] at da
          walk_at "rd"
          refine Vb.r_tupL (Vb.sq_of ha) fun p hp => ?_
          refine q _ _ (e.trans (Vb.same_new hp)) (.tup (Vb.st_of (Vb.offs_of ((t.same e).new hp) upd_same)) (Vb.dpa_same (Vb.offs_same (Vb.same_new hp)) _ _ (Vb.dpa_same Vb.offs_more _ _ da)))
end
end K
namespace K
open PySem PySem.Spec PyProof.Rows L2
abbrev N__law_store : List Str := ["script", "seed", "cell"]
theorem sc__law_store : FnScope N__law_store ["script"] (defScope s__law_store) := ⟨rfl, rfl, rfl, by decide +kernel, rfl, by decide +kernel, by decide +kernel⟩
section
variable {P : Program} {w : World} {K : PySem.W.Frag} {mg : Str → Option Value} {base : Heap}
def sp_store (K : PySem.W.Frag) : Sp := fun vs H Q _ => ∃ (a : Addr) (ns : List Int), vs = [.ref a] ∧ SqL K H a (ns.map V.int) ∧ ns.length ≤ 1000000 ∧ ∀ (st : Addr) (H' : Hp), H st = none → Same H H' → Vb.StoreAt H' st → Q (.ref st) H'
theorem ok_store (T : Txt K mg) : FnOk P w K mg base (L2N.CX P w) 1 T.f__law_store T.fd__law_store ["script"] (sp_store K) := by
  refine Vb.okN T.d__law_store.F sc__law_store (fun vs H Q E h => ?_) (fun cdv A outer s H vs Q E hr h => ?_)
  · obtain ⟨a, b, rfl, _⟩ := h
    rfl
  · obtain ⟨a, ns, rfl, hs, hl, q⟩ := h
    refine ⟨_, (pss_cons (ps_set (i := 1) sc__law_store.nd rfl (by first | exact Or.inl rfl | exact Or.inr rfl) pe_int)
      (pss_cons (ps_for (L2.passes_of rfl) rfl (pi_list (pv 0)) (pg_name (i := 2) sc__law_store.nd rfl (by first | exact Or.inl rfl | exact Or.inr rfl))
        (pss_one (ps_set (i := 1) sc__law_store.nd rfl (by first | exact Or.inl rfl | exact Or.inr rfl) (pe_op op_mod (pe_callTy Vb.call_int (by rfl) T.n_int (by decide +kernel) (pa_cons (pe_op op_add (pe_op op_add (pe_op op_mul (pv 1) pe_int) (pe_op op_mod (pe_callTy Vb.call_int (by rfl) T.n_int (by decide +kernel) (pa_cons (pv 2) pa_nil)) pe_int)) pe_int) pa_nil)) pe_int))))
      (pss_one (ps_ret (pe_lst (pa_cons (pe_callTy Vb.call_list (by rfl) T.n_list (by decide +kernel) (pa_cons (pv 0) pa_nil)) (pa_cons pe_int (pa_cons pe_int (pa_cons pe_int (pa_cons (pv 1) pa_nil)))))))))), ?_⟩
    (change (_ : L2.TS) _ ([some (.ref a), none, none] : L2.St) _); try dsimp only [L2.cxOf, L2H.cxH]
    walk_at "rd"
    refine Vb.lp_list (xs := ns.map V.int) (fun i σ H' => H' = H ∧ ∃ (z : Int) (y : Option V), σ = [some (.ref a), some (.int z), y]) ⟨rfl, 1, none, rfl⟩ (fun i σ H' _ p => by rw [p.1]; exact hs) ?_ ?_
    · rintro i x σ H' hi ⟨rfl, z, y, rfl⟩
      obtain ⟨c, _, rfl⟩ := Vb.getV' hi
      walk_at "rd"
      exact ⟨rfl, _, _, rfl⟩
    · rintro σ H' ⟨rfl, z, y, rfl⟩
      walk_at "rd"
      refine Vb.r_list hs fun l hn => ?_
      walk_at "rd"
      refine ⟨Vb.size_ok (by show 5 ≤ 16777216; decide), fun st hst => ?_⟩
      have hlst : l ≠ st := fun e => by rw [e, upd_same] at hst; cases hst
      have hst' : H' st = none := by rw [← hst, upd_ne hlst.symm]
      refine q st _ hst' (Same.trans (Vb.same_new hn) (Vb.same_new hst)) ⟨l, ns, 0, 0, 0, z, hlst, upd_same, by walk_at "hp", by omega, by omega⟩
end
end K
namespace K
open PySem PySem.Spec PyProof.Rows L2
abbrev N__law_edge : List Str := ["store", "low", "high", "many", "way"]
theorem sc__law_edge : FnScope N__law_edge ["store", "low", "high"] (defScope s__law_edge) := ⟨rfl, rfl, rfl, by decide +kernel, rfl, by decide +kernel, by decide +kernel⟩
section
variable {P : Program} {w : World} {K : PySem.W.Frag} {mg : Str → Option Value} {base : Heap}
def sp_edge (K : PySem.W.Frag) : Sp := fun vs H Q _ => ∃ (st : Addr) (lo hi : Int), vs = [.ref st, .int lo, .int hi] ∧ Vb.StoreAt H st ∧ hi - lo < 1073741823 ∧ ∀ (v : Int) (H' : Hp), lo ≤ v → (lo ≤ hi → v ≤ hi) → (hi ≤ lo → v = lo) → Vb.Fr st H H' → Vb.StoreAt H' st → Q (.int v) H'
theorem use_edge {st : Addr} {lo hi : Int} {H : Hp} {Q : VK} {E : XK} (h1 : Vb.StoreAt H st) (h2 : hi - lo < 1073741823) (h : ∀ (v : Int) (H' : Hp), lo ≤ v → (lo ≤ hi → v ≤ hi) → (hi ≤ lo → v = lo) → Vb.Fr st H H' → Vb.StoreAt H' st → Q (.int v) H') : sp_edge K [.ref st, .int lo, .int hi] H Q E := ⟨st, lo, hi, rfl, h1, h2, h⟩
theorem ok_edge (T : Txt K mg) : FnOk P w K mg base (L2N.CX P w) 3 T.f__law_edge T.fd__law_edge ["store", "low", "high"] (sp_edge K) := by
  have G__law_take := ok_take (P := P) (w := w) (base := base) T
  refine Vb.okN T.d__law_edge.F sc__law_edge (fun vs H Q E h => ?_) (fun cdv A outer s H vs Q E hr h => ?_)
  · obtain ⟨a, b, c, rfl, _⟩ := h
    rfl
  · obtain ⟨st, lo, hi, rfl, hS, hb, q⟩ := h
    refine ⟨_, (pss_cons (ps_set (i := 3) sc__law_edge.nd rfl (by first | exact Or.inl rfl | exact Or.inr rfl) (pe_op op_add (pe_callB (Vb.call_max2 rfl) (by rfl) T.n_max (by decide +kernel) (pa_cons pe_int (pa_cons (pe_op op_sub (pv 2) (pv 1)) pa_nil))) pe_int))
      (pss_cons (ps_set (i := 4) sc__law_edge.nd rfl (by first | exact Or.inl rfl | exact Or.inr rfl) (pe_callS G__law_take (hr.mono (by first | decide | omega)) (by rfl) T.d__law_take.g T.d__law_take.F.kp T.d__law_take.b (fun σ => L2N.passAt (L2N.takes_of rfl rfl rfl rfl) σ) (pa_cons (pv 0) (pa_cons pe_int pa_nil))))
      (pss_cons (ps_if (pt_cmpR op_eq (pv 4) pe_int (nomark _)) (pss_one (ps_ret (pv 1))) pss_nil)
      (pss_cons (ps_if (pt_cmpR op_eq (pv 4) pe_int (nomark _)) (pss_one (ps_ret (pe_op op_sub (pe_op op_add (pv 1) (pv 3)) pe_int))) pss_nil)
      (pss_cons (ps_if (pt_cmpR op_eq (pv 4) pe_int (nomark _)) (pss_one (ps_ret (pe_op op_add (pv 1) (pe_callB (Vb.call_min2 rfl) (by rfl) T.n_min (by decide +kernel) (pa_cons (pe_op op_sub (pv 3) pe_int) (pa_cons pe_int pa_nil)))))) pss_nil)
      (pss_one (ps_ret (pe_op op_add (pv 1) (pe_callS G__law_take (hr.mono (by first | decide | omega)) (by rfl) T.d__law_take.g T.d__law_take.F.kp T.d__law_take.b (fun σ => L2N.passAt (L2N.takes_of rfl rfl rfl rfl) σ) (pa_cons (pv 0) (pa_cons (pv 3) pa_nil))))))))))), ?_⟩
    (change (_ : L2.TS) _ ([some (.ref st), some (.int lo), some (.int hi), none, none] : L2.St) _); try dsimp only [L2.cxOf, L2H.cxH]
    walk_at "rd"
    have hm : 0 < (if hi - lo > 0 then hi - lo else 0) + 1 ∧ (if hi - lo > 0 then hi - lo else 0) + 1 < 1073741824 ∧ (lo ≤ hi → (if hi - lo > 0 then hi - lo else 0) + 1 = hi - lo + 1) ∧ (hi ≤ lo → (if hi - lo > 0 then hi - lo else 0) + 1 = 1) := by
      split <;> omega
    generalize (if hi - lo > 0 then hi - lo else 0) + 1 = m at hm ⊢
    obtain ⟨m1, m2, m3, m4⟩ := hm
    refine use_take hS (by decide) fun v1 H1 a1 a2 _ f1 S1 => ?_
    walk_at "rd"
    refine Vb.r_ite (fun c1 => ?_) (fun c1 => ?_)
    · walk_at "rd"
      exact q _ _ (by omega) (by omega) (by omega) f1 S1
    · walk_at "rd"
      refine Vb.r_ite (fun c2 => ?_) (fun c2 => ?_)
      · walk_at "rd"
        exact q _ _ (by omega) (by omega) (by omega) f1 S1
      · walk_at "rd"
        refine Vb.r_ite (fun c3 => ?_) (fun c3 => ?_)
        · walk_at "rd"
          refine q _ _ ?_ ?_ ?_ f1 S1 <;> split <;> omega
        · walk_at "rd"
          refine use_take S1 (by omega) fun v2 H2 b1 b2 b3 f2 S2 => ?_
          walk_at "rd"
          exact q _ _ (by omega) (by omega) (by omega) (f1.trans f2) S2
end
end K
namespace K
open PySem PySem.Spec PyProof.Rows L2
abbrev N__law_pick : List Str := ["store", "row"]
theorem sc__law_pick : FnScope N__law_pick ["store", "row"] (defScope s__law_pick) := ⟨rfl, rfl, rfl, by decide +kernel, rfl, by decide +kernel, by decide +kernel⟩
section
variable {P : Program} {w : World} {K : PySem.W.Frag} {mg : Str → Option Value} {base : Heap}
def sp_pick (K : PySem.W.Frag) : Sp := fun vs H Q _ => ∃ (st a : Addr) (xs : List V), vs = [.ref st, .ref a] ∧ Vb.StoreAt H st ∧ a ≠ st ∧ SqL K H a xs ∧ xs.length < 1000000 ∧ (xs = [] → Q .non H) ∧ ∀ (i : Nat) (v : V) (H' : Hp), xs[i]? = some v → Vb.Fr st H H' → Vb.StoreAt H' st → Q v H'
theorem use_pick {st a : Addr} {H : Hp} {Q : VK} {E : XK} (xs : List V) (h1 : Vb.StoreAt H st) (h2 : a ≠ st) (h3 : SqL K H a xs) (h4 : xs.length < 1000000) (h5 : xs ≠ []) (h : ∀ (i : Nat) (v : V) (H' : Hp), xs[i]? = some v → Vb.Fr st H H' → Vb.StoreAt H' st → Q v H') : sp_pick K [.ref st, .ref a] H Q E := ⟨st, a, xs, rfl, h1, h2, h3, h4, fun e => absurd e h5, h⟩
theorem ok_pick (T : Txt K mg) : FnOk P w K mg base (L2N.CX P w) 3 T.f__law_pick T.fd__law_pick ["store", "row"] (sp_pick K) := by
  have G__law_take := ok_take (P := P) (w := w) (base := base) T
  refine Vb.okN T.d__law_pick.F sc__law_pick (fun vs H Q E h => ?_) (fun cdv A outer s H vs Q E hr h => ?_)
  · obtain ⟨a, b, c, rfl, _⟩ := h
    rfl
  · obtain ⟨st, a, xs, rfl, hS, hne, hx, hb, q0, q⟩ := h
    refine ⟨_, (pss_cons (ps_if (pt_cmpR op_eq (pe_callB Vb.call_len (by rfl) T.n_len (by decide +kernel) (pa_cons (pv 1) pa_nil)) pe_int (nomark _)) (pss_one (ps_ret pe_non)) pss_nil)
      (pss_one (ps_ret (pe_ix ix_list (pv 1) (pe_callS G__law_take (hr.mono (by first | decide | omega)) (by rfl) T.d__law_take.g T.d__law_take.F.kp T.d__law_take.b (fun σ => L2N.passAt (L2N.takes_of rfl rfl rfl rfl) σ) (pa_cons (pv 0) (pa_cons (pe_callB Vb.call_len (by rfl) T.n_len (by decide +kernel) (pa_cons (pv 1) pa_nil)) pa_nil))) (fun _ _ => rfl))))), ?_⟩
    (change (_ : L2.TS) _ ([some (.ref st), some (.ref a)] : L2.St) _); try dsimp only [L2.cxOf, L2H.cxH]
    walk_at "rd"
    refine Vb.r_ite (fun c1 => ?_) (fun c1 => ?_)
    · walk_at "rd"
      exact q0 (List.eq_nil_of_length_eq_zero (by omega))
    · walk_at "rd"
      refine use_take hS (by omega) fun v H1 a1 a2 a3 f1 S1 => ?_
      have hlt : v.toNat < xs.length := by omega
      refine Vb.r_ixL (f1.seq hne hx) (Vb.at_lit v.toNat (by omega) (List.getElem?_eq_getElem hlt)) ?_
      exact q _ _ _ (List.getElem?_eq_getElem hlt) f1 S1
end
end K
namespace K
open PySem PySem.Spec PyProof.Rows L2
abbrev N__law_other_kind : List Str := ["store"]
theorem sc__law_other_kind : FnScope N__law_other_kind ["store"] (defScope s__law_other_kind) := ⟨rfl, rfl, rfl, by decide +kernel, rfl, by decide +kernel, by decide +kernel⟩
section
variable {P : Program} {w : World} {K : PySem.W.Frag} {mg : Str → Option Value} {base : Heap}
/-- a value that is no integer -/
def oddKinds : List PyData := [.bool true, .bool false, .none, .str "", .str "0", .str "1", .str "a", .tuple [], .tuple [.int 0]]
def sp_kind (K : PySem.W.Frag) : Sp := fun vs H Q _ => ∃ (st : Addr), vs = [.ref st] ∧ Vb.StoreAt H st ∧ ∀ (v : V) (d : PyData) (H' : Hp), d ∈ oddKinds → Vb.Fr st H H' → Vb.StoreAt H' st → (∀ Z, Vb.Trk Z H → Dp K (Vb.offs (st :: Z) H') v d) → Q v H'
theorem use_kind {st : Addr} {H : Hp} {Q : VK} {E : XK} (h1 : Vb.StoreAt H st) (h : ∀ (v : V) (d : PyData) (H' : Hp), d ∈ oddKinds → Vb.Fr st H H' → Vb.StoreAt H' st → (∀ Z, Vb.Trk Z H → Dp K (Vb.offs (st :: Z) H') v d) → Q v H') : sp_kind K [.ref st] H Q E := ⟨st, rfl, h1, h⟩
theorem ok_kind (T : Txt K mg) : FnOk P w K mg base (L2N.CX P w) 4 T.f__law_other_kind T.fd__law_other_kind ["store"] (sp_kind K) := by
  have G__law_pick := ok_pick (P := P) (w := w) (base := base) T
  refine Vb.okN T.d__law_other_kind.F sc__law_other_kind (fun vs H Q E h => ?_) (fun cdv A outer s H vs Q E hr h => ?_)
  · obtain ⟨a, rfl, _⟩ := h
    rfl
  · obtain ⟨st, rfl, hS, q⟩ := h
    refine ⟨_, (pss_one (ps_ret (pe_callS G__law_pick (hr.mono (by first | decide | omega)) (by rfl) T.d__law_pick.g T.d__law_pick.F.kp T.d__law_pick.b (fun σ => L2N.passAt (L2N.takes_of rfl rfl rfl rfl) σ) (pa_cons (pv 0) (pa_cons (pe_lst (pa_cons pe_bl (pa_cons pe_bl (pa_cons pe_non (pa_cons pe_str (pa_cons pe_str (pa_cons pe_str (pa_cons pe_str (pa_cons (pe_tup pa_nil) (pa_cons (pe_tup (pa_cons pe_int pa_nil)) pa_nil)))))))))) pa_nil))))), ?_⟩
    (change (_ : L2.TS) _ ([some (.ref st)] : L2.St) _); try dsimp only [L2.cxOf, L2H.cxH]
    walk_at "rd"
    refine ⟨Vb.size_ok (by decide), fun p hp => ?_⟩
    walk_at "rd"
    refine ⟨Vb.size_ok (by show 1 ≤ 16777216; decide), fun r hr => ?_⟩
    walk_at "rd"
    refine ⟨Vb.size_ok (by show 9 ≤ 16777216; decide), fun l hl => ?_⟩
    walk_at "rd"
    have e1 := Vb.same_new (o := .tup []) hp
    have e2 := Vb.same_new (o := .tup [.int 0]) hr
    have e3 := Vb.same_new (o := .lst [.bl true, .bl false, .non, .str "", .str "0", .str "1", .str "a", .ref p, .ref r]) hl
    have e := (e1.trans e2).trans e3
    have n1 := hS.ne hp
    have n2 := (hS.same e1).ne hr
    have n3 := (hS.same (e1.trans e2)).ne hl
    refine use_pick _ (hS.same e) n3 (Vb.sq_of upd_same) (by show 9 < 1000000; decide) (by simp) fun i v H' hv f S => ?_
    have hp' : H' p = some (.tup []) := f.k _ _ n1 (e3 _ _ (e2 _ _ upd_same))
    have hr' : H' r = some (.tup [.int 0]) := f.k _ _ n2 (e3 _ _ upd_same)
    have f' : Vb.Fr st H H' := (Vb.Fr.of e).trans f
    obtain ⟨d, hd⟩ : ∃ d, oddKinds[i]? = some d := by
      have h9 : i < 9 := (List.getElem?_eq_some_iff.mp hv).1
      exact ⟨_, List.getElem?_eq_getElem (show i < oddKinds.length from h9)⟩
    refine q _ _ _ (List.mem_of_getElem? hd) f' S fun Z t => ?_
    have m1 : p ∉ st :: Z := fun m => (List.mem_cons.mp m).elim n1 (t.new hp)
    have m2 : r ∉ st :: Z := fun m => (List.mem_cons.mp m).elim n2 ((t.same e1).new hr)
    have all : DpAll K (Vb.offs (st :: Z) H') [.bl true, .bl false, .non, .str "", .str "0", .str "1", .str "a", .ref p, .ref r] oddKinds :=
      .cons (.bl _) (.cons (.bl _) (.cons .non (.cons (.str _) (.cons (.str _) (.cons (.str _) (.cons (.str _) (.cons (Vb.dp_tup (Vb.offs_of m1 hp') .nil) (.cons (Vb.dp_tup (Vb.offs_of m2 hr') (.cons (.int 0) .nil)) .nil))))))))
    obtain ⟨d', hd', g⟩ := Vb.dpa_get all hv
    rw [hd] at hd'
    cases hd'
    exact g
end
end K
namespace K
open PySem PySem.Spec PyProof.Rows L2
abbrev N_is_whole : List Str := ["value"]
theorem sc_is_whole : FnScope N_is_whole ["value"] (defScope s_is_whole) := ⟨rfl, rfl, rfl, by decide +kernel, rfl, by decide +kernel, by decide +kernel⟩
section
variable {P : Program} {w : World} {K : PySem.W.Frag} {mg : Str → Option Value} {base : Heap}
def whole : PyData → Bool | .int _ => true | _ => false
def sp_whole (K : PySem.W.Frag) : Sp := fun vs H Q _ => ∃ (v : V) (d : PyData), vs = [v] ∧ Dp K H v d ∧ Q (.bl (whole d)) H
theorem use_whole {v : V} {d : PyData} {b : Bool} {H : Hp} {Q : VK} {E : XK} (h : Dp K H v d) (e : whole d = b) (q : Q (.bl b) H) : sp_whole K [v] H Q E := ⟨v, d, rfl, h, by rw [e]; exact q⟩
theorem ok_whole (T : Txt K mg) : FnOk P w K mg base (L2N.CX P w) 1 T.f_is_whole T.fd_is_whole ["value"] (sp_whole K) := by
  refine Vb.okN T.d_is_whole.F sc_is_whole (fun vs H Q E h => ?_) (fun cdv A outer s H vs Q E hr h => ?_)
  · obtain ⟨a, b, rfl, _⟩ := h
    rfl
  · obtain ⟨v, d, rfl, hd, q⟩ := h
    refine ⟨_, (pss_one (ps_ret (pe_and (pe_callB call_isi (by rfl) T.n_isinstance (by decide +kernel) (pa_cons (pv 0) (pa_cons (pe_bltn (v := .ty "int") (by rfl) T.n_int (by decide +kernel) rfl) pa_nil))) (pe_one (pe_not (pe_callB call_isi (by rfl) T.n_isinstance (by decide +kernel) (pa_cons (pv 0) (pa_cons (pe_bltn (v := .ty "bool") (by rfl) T.n_bool (by decide +kernel) rfl) pa_nil)))))))), ?_⟩
    (change (_ : L2.TS) _ ([some (v)] : L2.St) _); try dsimp only [L2.cxOf, L2H.cxH]
    cases d <;> (walk_at "rd"; exact q)
end
end K
namespace K
open PySem PySem.Spec PyProof.Rows L2
abbrev N_is_prime : List Str := ["value", "divisor"]
theorem sc_is_prime : FnScope N_is_prime ["value"] (defScope s_is_prime) := ⟨rfl, rfl, rfl, by decide +kernel, rfl, by decide +kernel, by decide +kernel⟩
section
variable {P : Program} {w : World} {K : PySem.W.Frag} {mg : Str → Option Value} {base : Heap}
/-- is_prime -/
def sp_isprime (K : PySem.W.Frag) (C : Addr) : Sp := fun vs H Q E => ∃ (v : V) (d : PyData), vs = [v] ∧ Dp K H v d ∧ (∀ n, d = .int n → (10000 < n → E (.ref C) none H) ∧ (n ≤ 10000 → Q (.bl (Vb.isP n)) H)) ∧ (whole d = false → Q (.bl false) H)
theorem use_isprime {C : Addr} {n : Int} {b : Bool} {H : Hp} {Q : VK} {E : XK} (h : n ≤ 10000) (e : Vb.isP n = b) (q : Q (.bl b) H) : sp_isprime K C [.int n] H Q E := ⟨.int n, .int n, rfl, .int n, fun m z => by cases z; exact ⟨fun h' => absurd h (by omega), fun _ => by rw [e]; exact q⟩, fun z => by cases z⟩
theorem ok_isprime (T : Txt K mg) : FnOk P w K mg base (L2N.CX P w) 2 T.f_is_prime T.fd_is_prime ["value"] (sp_isprime K T.C_TooLarge) := by
  have G_is_whole := ok_whole (P := P) (w := w) (base := base) T
  refine Vb.okN T.d_is_prime.F sc_is_prime (fun vs H Q E h => ?_) (fun cdv A outer s H vs Q E hr h => ?_)
  · obtain ⟨a, b, rfl, _⟩ := h
    rfl
  · obtain ⟨v, d, rfl, hd, q1, q2⟩ := h
    refine ⟨_, (pss_cons (ps_if (pt_not (pt_val (pe_callS G_is_whole (hr.mono (by first | decide | omega)) (by rfl) T.d_is_whole.g T.d_is_whole.F.kp T.d_is_whole.b (fun σ => L2N.passAt (L2N.takes_of rfl rfl rfl rfl) σ) (pa_cons (pv 0) pa_nil)))) (pss_one (ps_ret pe_bl)) pss_nil)
      (pss_cons (ps_if (pt_cmpR op_gt (pv 0) (pe_glob (v := .int 10000) (by rfl) T.c_MAX_TESTED ⟨_, rfl⟩) (nomark _)) (pss_one (L2N.ps_raise rfl (L2N.takes_of rfl rfl rfl rfl) (Vb.pmk0 T.x_TooLarge rfl))) pss_nil)
      (pss_cons (ps_set (i := 1) sc_is_prime.nd rfl (by first | exact Or.inl rfl | exact Or.inr rfl) pe_int)
      (pss_cons (ps_while (L2.passes_of rfl) (pt_cmpR op_le (pe_op op_mul (pv 1) (pv 1)) (pv 0) (nomark _)) (pss_cons (ps_if (pt_cmpR op_eq (pe_op op_mod (pv 0) (pv 1)) pe_int (nomark _)) (pss_one (ps_ret pe_bl)) pss_nil)
      (pss_one (ps_set (i := 1) sc_is_prime.nd rfl (by first | exact Or.inl rfl | exact Or.inr rfl) (pe_op op_add (pv 1) pe_int)))))
      (pss_one (ps_ret (pe_cmpR op_gt (pv 0) pe_int (nomark _)))))))), ?_⟩
    (change (_ : L2.TS) _ ([some (v), none] : L2.St) _); try dsimp only [L2.cxOf, L2H.cxH]
    walk_at "rd"
    cases hw : whole d with
    | false =>
      refine use_whole hd hw ?_
      walk_at "rd"
      exact q2 hw
    | true =>
      refine use_whole hd hw ?_
      walk_at "rd"
      cases d with
      | int n =>
        cases hd
        obtain ⟨q3, q4⟩ := q1 n rfl
        walk_at "rd"
        refine Vb.r_ite (fun c1 => ?_) (fun c1 => ?_)
        · exact q3 c1
        walk_at "rd"
        refine Vb.r_while (fun m σ H' => H' = H ∧ ∃ D : Int, σ = [some (.int n), some (.int D)] ∧ 2 ≤ D ∧ D ≤ 10001 ∧ (∀ d : Int, 2 ≤ d → d < D → n % d ≠ 0) ∧ m = (n + 1 - D).toNat) _ ⟨rfl, 2, rfl, by omega, by omega, fun d a b => by omega, rfl⟩ ?_
        rintro m σ H' ⟨rfl, D, rfl, hD, hD1, hd, hm⟩
        have hDn : D * D ≤ n → D < n := fun h => by
          have : D * 2 ≤ D * D := Int.mul_le_mul_of_nonneg_left hD (by omega)
          omega
        walk_at "rd"
        refine Vb.r_ite (fun c2 => ?_) (fun c2 => ?_)
        · have hl := hDn c2
          refine Vb.wh_body ?_
          walk_at "rd"
          refine Vb.r_ite (fun c3 => ?_) (fun c3 => ?_)
          · walk_at "rd"
            have e : Vb.isP n = false := by
              cases z : Vb.isP n with
              | false => rfl
              | true => exact absurd ((Vb.isP_iff n).mp z) (Vb.not_prm hD hl c3)
            rw [← e]
            exact q4 (by omega)
          · walk_at "rd"
            refine ⟨_, ?_, rfl, D + 1, rfl, by omega, by omega, fun d a b => ?_, rfl⟩
            · omega
            · by_cases z : d = D
              · rw [z]; exact c3
              · exact hd d a (by omega)
        · walk_at "rd"
          have e : Vb.isP n = decide (1 < n) := by
            by_cases z : 1 < n
            · rw [decide_eq_true z, Vb.isP_iff]
              exact Vb.prm_root (by omega) hD (by omega) hd
            · rw [decide_eq_false z]
              cases y : Vb.isP n with
              | false => rfl
              | true => exact absurd ((Vb.isP_iff n).mp y).1 (by omega)
          rw [← e]
          exact q4 (by omega)
      | none => cases hw
      | bool b => cases hw
      | str x => cases hw
      | list ds => cases hw
      | tuple ds => cases hw
      | dict kvs => cases hw
end
end K
namespace K
open PySem PySem.Spec PyProof.Rows L2
abbrev N_check_prime : List Str := ["prime"]
theorem sc_check_prime : FnScope N_check_prime ["prime"] (defScope s_check_prime) := ⟨rfl, rfl, rfl, by decide +kernel, rfl, by decide +kernel, by decide +kernel⟩
section
variable {P : Program} {w : World} {K : PySem.W.Frag} {mg : Str → Option Value} {base : Heap}
/-- check_prime -/
def field : PyData → Bool | .int p => decide (p ≤ 101) && Vb.isP p | _ => false
theorem field_yes {n : Int} (h : Vb.Prm n) (l : n ≤ 101) : field (.int n) = true := by
  show (decide (n ≤ 101) && Vb.isP n) = true
  rw [decide_eq_true l, (Vb.isP_iff n).mpr h]
  rfl
def sp_check (K : PySem.W.Frag) (C : Addr) : Sp := fun vs H Q E => ∃ (v : V) (d : PyData), vs = [v] ∧ Dp K H v d ∧ (field d = true → Q v H) ∧ (field d = false → ∀ dd : Addr, H dd = none → E (.ref C) (some dd) (upd H dd (.xd [("value", v)])))
theorem ok_check (T : Txt K mg) : FnOk P w K mg base (L2N.CX P w) 3 T.f_check_prime T.fd_check_prime ["prime"] (sp_check K T.C_NotPrime) := by
  have G_is_prime := ok_isprime (P := P) (w := w) (base := base) T
  have G_is_whole := ok_whole (P := P) (w := w) (base := base) T
  refine Vb.okN T.d_check_prime.F sc_check_prime (fun vs H Q E h => ?_) (fun cdv A outer s H vs Q E hr h => ?_)
  · obtain ⟨a, b, rfl, _⟩ := h
    rfl
  · obtain ⟨v, d, rfl, hd, q1, q2⟩ := h
    refine ⟨_, (pss_cons (ps_if (PW.pt (pw_or (pt_not (pt_val (pe_callS G_is_whole (hr.mono (by first | decide | omega)) (by rfl) T.d_is_whole.g T.d_is_whole.F.kp T.d_is_whole.b (fun σ => L2N.passAt (L2N.takes_of rfl rfl rfl rfl) σ) (pa_cons (pv 0) pa_nil)))) (pw_or (pt_cmpR op_gt (pv 0) (pe_glob (v := .int 101) (by rfl) T.c_MAX_PRIME ⟨_, rfl⟩) (nomark _)) (pw_or1 (pt_not (pt_val (pe_callS G_is_prime (hr.mono (by first | decide | omega)) (by rfl) T.d_is_prime.g T.d_is_prime.F.kp T.d_is_prime.b (fun σ => L2N.passAt (L2N.takes_of rfl rfl rfl rfl) σ) (pa_cons (pv 0) pa_nil)))))))) (pss_one (L2N.ps_raise rfl (L2N.takes_of rfl rfl rfl rfl) (L2.pmk_value T.i_NotPrime (hr.mono (by decide) : Room 1 _) (by exact (pa_cons (pv 0) pa_nil)) rfl))) pss_nil)
      (pss_one (ps_ret (pv 0)))), ?_⟩
    (change (_ : L2.TS) _ ([some (v)] : L2.St) _); try dsimp only [L2.cxOf, L2H.cxH]
    walk_at "rd"
    cases hw : whole d with
    | false =>
      refine use_whole hd hw ?_
      walk_at "rd"
      have hf : field d = false := by cases d <;> first | rfl | cases hw
      exact ⟨_, rfl, _, rfl, fun dd n => q2 hf dd n⟩
    | true =>
      refine use_whole hd hw ?_
      walk_at "rd"
      cases d with
      | int n =>
        cases hd
        walk_at "rd"
        refine Vb.r_ite (fun c1 => ?_) (fun c1 => ?_)
        · walk_at "rd"
          have hf : field (.int n) = false := by
            show (decide (n ≤ 101) && Vb.isP n) = false
            rw [decide_eq_false (by omega)]
            rfl
          exact ⟨_, rfl, _, rfl, fun dd n => q2 hf dd n⟩
        walk_at "rd"
        have hf : field (.int n) = Vb.isP n := by
          show (decide (n ≤ 101) && Vb.isP n) = _
          rw [decide_eq_true (by omega)]
          rfl
        cases hp : Vb.isP n with
        | true =>
          refine use_isprime (by omega) hp ?_
          walk_at "rd"
          exact q1 (hf.trans hp)
        | false =>
          refine use_isprime (by omega) hp ?_
          walk_at "rd"
          exact ⟨_, rfl, _, rfl, fun dd n => q2 (hf.trans hp) dd n⟩
      | none => cases hw
      | bool b => cases hw
      | str x => cases hw
      | list ds => cases hw
      | tuple ds => cases hw
      | dict kvs => cases hw
end
end K
namespace K
open PySem PySem.Spec PyProof.Rows L2
section
theorem odd_bad : ∀ d ∈ oddKinds, field d = false ∧ whole d = false ∧ Vb.DOk 4 d := by
  intro d m
  unfold oddKinds at m
  simp only [List.mem_cons, List.not_mem_nil, or_false] at m
  rcases m with rfl | rfl | rfl | rfl | rfl | rfl | rfl | rfl | rfl
  · exact ⟨rfl, rfl, trivial⟩
  · exact ⟨rfl, rfl, trivial⟩
  · exact ⟨rfl, rfl, trivial⟩
  · exact ⟨rfl, rfl, trivial⟩
  · exact ⟨rfl, rfl, trivial⟩
  · exact ⟨rfl, rfl, trivial⟩
  · exact ⟨rfl, rfl, trivial⟩
  · exact ⟨rfl, rfl, by decide, fun d m => absurd m List.not_mem_nil⟩
  · refine ⟨rfl, rfl, by decide, fun d m => ?_⟩
    rw [List.mem_singleton.mp m]
    exact trivial
end
end K
namespace K
open PySem PySem.Spec PyProof.Rows L2

abbrev N__law_primes : List Str := ["limit", "primes", "number", "divided", "prime"]
theorem sc__law_primes : FnScope N__law_primes ["limit"] (defScope s__law_primes) := ⟨rfl, rfl, rfl, by decide +kernel, rfl, by decide +kernel, by decide +kernel⟩
section
variable {P : Program} {w : World} {K : PySem.W.Frag} {mg : Str → Option Value} {base : Heap}
def sp_primes (K : PySem.W.Frag) : Sp := fun vs H Q _ => ∃ (n : Int), vs = [.int n] ∧ 1 ≤ n ∧ n ≤ 10000 ∧ ∀ (p : Addr) (H' : Hp), H p = none → Same H H' → H' p = some (.lst ((Vb.upto n).map V.int)) → Q (.ref p) H'
theorem use_primes {n : Int} {H : Hp} {Q : VK} {E : XK} (h1 : 1 ≤ n) (h : n ≤ 10000) (q : ∀ (p : Addr) (H' : Hp), H p = none → Same H H' → H' p = some (.lst ((Vb.upto n).map V.int)) → Q (.ref p) H') : sp_primes K [.int n] H Q E := ⟨n, rfl, h1, h, q⟩
theorem ok_primes (T : Txt K mg) : FnOk P w K mg base (L2N.CX P w) 1 T.f__law_primes T.fd__law_primes ["limit"] (sp_primes K) := by
  refine Vb.okN T.d__law_primes.F sc__law_primes (fun vs H Q E h => ?_) (fun cdv A outer s H vs Q E hr h => ?_)
  · obtain ⟨a, rfl, _⟩ := h
    rfl
  · obtain ⟨n, rfl, hn1, hn, q⟩ := h
    refine ⟨_, (pss_cons (ps_set (i := 1) sc__law_primes.nd rfl (by first | exact Or.inl rfl | exact Or.inr rfl) (pe_lst pa_nil))
      (pss_cons (ps_for (L2.passes_of rfl) rfl (Vb.pi_rangeW rfl T.n_range (pa_cons pe_int (pa_cons (pe_op op_add (pv 0) pe_int) pa_nil))) (pg_name (i := 2) sc__law_primes.nd rfl (by first | exact Or.inl rfl | exact Or.inr rfl))
        (pss_cons (ps_set (i := 3) sc__law_primes.nd rfl (by first | exact Or.inl rfl | exact Or.inr rfl) pe_bl)
      (Evl.pss_cut (ps_for (L2.passes_of rfl) rfl (pi_list (pv 1)) (pg_name (i := 4) sc__law_primes.nd rfl (by first | exact Or.inl rfl | exact Or.inr rfl))
        (pss_cons (ps_if (pt_cmpR op_gt (pe_op op_mul (pv 4) (pv 4)) (pv 2) (nomark _)) (pss_one ps_break) pss_nil)
      (pss_one (ps_if (pt_cmpR op_eq (pe_op op_mod (pv 2) (pv 4)) pe_int (nomark _)) (pss_cons (ps_set (i := 3) sc__law_primes.nd rfl (by first | exact Or.inl rfl | exact Or.inr rfl) pe_bl)
      (pss_one ps_break)) pss_nil))))
      (pss_one (ps_if (pt_not (pt_val (pv 3))) (pss_one (ps_expr (pe_bm PySem.F.plainAttrs_list PySem.F.slot_list_append PySem.F.type_list_append mt_append (pv 1) (pa_cons (pv 2) pa_nil)))) pss_nil)))))
      (pss_one (ps_ret (pv 1))))), ?_⟩
    (change (_ : L2.TS) _ ([some (.int n), none, none, none, none] : L2.St) _); try dsimp only [L2.cxOf, L2H.cxH]
    walk_at "rd"
    refine ⟨Vb.size_ok (Nat.zero_le _), fun p hp => ?_⟩
    walk_at "rd"
    refine Vb.lp_range (fun i σ H' => i ≤ (n + 1 - 2).toNat ∧ Same H H' ∧ H' p = some (.lst ((Vb.upto (1 + i)).map V.int)) ∧ ∃ y2 y3 y4, σ = [some (.int n), some (.ref p), y2, y3, y4]) ⟨Nat.zero_le _, Vb.same_new hp, ?_, none, none, none, rfl⟩ ?_ ?_
    · rw [Vb.upto_low (by omega)]
      exact upd_same
    · rintro i σ H' hi ⟨_, e, ha, y2, y3, y4, rfl⟩
      have hl := Vb.upto_len (n := 1 + i)
      have hnx := Vb.upto_next (n := 1 + i) (by omega)
      rw [show (1 : Int) + i + 1 = 2 + i by omega] at hnx
      walk_at "rd"
      refine Vb.r_cut (fun σ' H2 => H2 = H' ∧ ∃ y, σ' = [some (.int n), some (.ref p), some (.int (2 + i)), some (.bl (!Vb.isP (2 + i))), y]) ?_ ?_
      · walk_at "rd"
        refine Vb.lp_list (xs := (Vb.upto (1 + i)).map V.int) (fun j σ' H2 => H2 = H' ∧ (∀ k q, k < j → (Vb.upto (1 + i))[k]? = some q → (2 + (i : Int)) % q ≠ 0) ∧ ∃ y, σ' = [some (.int n), some (.ref p), some (.int (2 + i)), some (.bl false), y]) ⟨rfl, fun k q h => absurd h (Nat.not_lt_zero k), y4, rfl⟩ (fun j σ' H2 _ c => by rw [c.1]; exact Vb.sq_of ha) ?_ ?_
        · rintro j x σ' H2 hj ⟨rfl, hk, y, rfl⟩
          obtain ⟨q, hq, rfl⟩ := Vb.getV' hj
          obtain ⟨pq, lq⟩ := Vb.mem_upto.mp (List.mem_of_getElem? hq)
          have q2 := pq.1
          walk_at "rd"
          refine Vb.r_ite (fun c => ?_) (fun c => ?_)
          · walk_at "rd"
            have e : Vb.isP (2 + i) = true := (Vb.isP_iff _).mpr (Vb.prm_root (by omega) q2 c fun d a b z => by
              obtain ⟨r, pr, lr, zr⟩ := Vb.least_prime d.toNat _ d (Nat.le_refl _) a z
              obtain ⟨k, hkj, hkr⟩ := Vb.sorted_ahead (Vb.upto_sorted _) hq (Vb.mem_upto.mpr ⟨pr, by omega⟩) (show r < q by omega)
              exact hk k r hkj hkr zr)
            rw [e]
            exact ⟨rfl, _, rfl⟩
          · walk_at "rd"
            refine Vb.r_ite (fun c2 => ?_) (fun c2 => ?_)
            · walk_at "rd"
              have e : Vb.isP (2 + i) = false := by
                cases z : Vb.isP (2 + i) with
                | false => rfl
                | true => exact absurd ((Vb.isP_iff _).mp z) (Vb.not_prm q2 (by omega) c2)
              rw [e]
              exact ⟨rfl, _, rfl⟩
            · walk_at "rd"
              refine ⟨rfl, fun k r hk' hr' => ?_, _, rfl⟩
              by_cases z : k = j
              · rw [z, hq] at hr'
                cases hr'
                exact c2
              · exact hk k r (by omega) hr'
        · rintro σ' H2 ⟨rfl, hk, y, rfl⟩
          have e : Vb.isP (2 + i) = true := (Vb.isP_iff _).mpr (Vb.prm_of (by omega) fun r pr lr => by
            obtain ⟨k, hkr⟩ := List.mem_iff_getElem?.mp (Vb.mem_upto.mpr ⟨pr, show r ≤ 1 + i by omega⟩)
            refine hk k r ?_ hkr
            rw [List.length_map]
            exact (List.getElem?_eq_some_iff.mp hkr).1)
          rw [e]
          exact ⟨rfl, _, rfl⟩
      · rintro σ' H2 ⟨rfl, y, rfl⟩
        walk_at "rd"
        rw [Bool.not_not]
        refine Vb.r_iteb (fun c => ?_) (fun c => ?_)
        · walk_at "rd"
          refine ⟨by omega, Vb.same_mut e hp, ?_, _, _, _, rfl⟩
          rw [show (1 : Int) + ((i + 1 : Nat) : Int) = 2 + i by omega, hnx, c, if_pos rfl, List.map_append]
          exact upd_same
        · refine ⟨by omega, e, ?_, _, _, _, rfl⟩
          rw [show (1 : Int) + ((i + 1 : Nat) : Int) = 2 + i by omega, hnx, c, if_neg (by decide), List.append_nil]
          exact ha
    · rintro σ H' ⟨_, e, ha, y2, y3, y4, rfl⟩
      walk_at "rd"
      refine q p H' hp e ?_
      rw [ha, show (1 : Int) + ((n + 1 - 2).toNat : Nat) = n by omega]
end
end K
namespace K
open PySem PySem.Spec PyProof.Rows L2
abbrev N__law_prime : List Str := ["store", "primes"]
theorem sc__law_prime : FnScope N__law_prime ["store"] (defScope s__law_prime) := ⟨rfl, rfl, rfl, by decide +kernel, rfl, by decide +kernel, by decide +kernel⟩
section
variable {P : Program} {w : World} {K : PySem.W.Frag} {mg : Str → Option Value} {base : Heap}
/-- a prime of a field -/
def sp_prime (K : PySem.W.Frag) : Sp := fun vs H Q _ => ∃ (st : Addr), vs = [.ref st] ∧ Vb.StoreAt H st ∧ ∀ (p : Int) (H' : Hp), Vb.Prm p → p ≤ 101 → Vb.Fr st H H' → Vb.StoreAt H' st → Q (.int p) H'
theorem use_prime {st : Addr} {H : Hp} {Q : VK} {E : XK} (h1 : Vb.StoreAt H st) (h : ∀ (p : Int) (H' : Hp), Vb.Prm p → p ≤ 101 → Vb.Fr st H H' → Vb.StoreAt H' st → Q (.int p) H') : sp_prime K [.ref st] H Q E := ⟨st, rfl, h1, h⟩
theorem ok_prime (T : Txt K mg) : FnOk P w K mg base (L2N.CX P w) 4 T.f__law_prime T.fd__law_prime ["store"] (sp_prime K) := by
  have G__law_primes := ok_primes (P := P) (w := w) (base := base) T
  have G__law_edge := ok_edge (P := P) (w := w) (base := base) T
  refine Vb.okN T.d__law_prime.F sc__law_prime (fun vs H Q E h => ?_) (fun cdv A outer s H vs Q E hr h => ?_)
  · obtain ⟨a, rfl, _⟩ := h
    rfl
  · obtain ⟨st, rfl, hS, q⟩ := h
    refine ⟨_, (pss_cons (ps_set (i := 1) sc__law_prime.nd rfl (by first | exact Or.inl rfl | exact Or.inr rfl) (pe_callS G__law_primes (hr.mono (by first | decide | omega)) (by rfl) T.d__law_primes.g T.d__law_primes.F.kp T.d__law_primes.b (fun σ => L2N.passAt (L2N.takes_of rfl rfl rfl rfl) σ) (pa_cons pe_int pa_nil)))
      (pss_one (ps_ret (pe_ix ix_list (pv 1) (pe_callS G__law_edge (hr.mono (by first | decide | omega)) (by rfl) T.d__law_edge.g T.d__law_edge.F.kp T.d__law_edge.b (fun σ => L2N.passAt (L2N.takes_of rfl rfl rfl rfl) σ) (pa_cons (pv 0) (pa_cons pe_int (pa_cons (pe_op op_sub (pe_callB Vb.call_len (by rfl) T.n_len (by decide +kernel) (pa_cons (pv 1) pa_nil)) pe_int) pa_nil)))) (fun _ _ => rfl))))), ?_⟩
    (change (_ : L2.TS) _ ([some (.ref st), none] : L2.St) _); try dsimp only [L2.cxOf, L2H.cxH]
    walk_at "rd"
    refine use_primes (by decide) (by decide) fun p H1 np e1 hp => ?_
    walk_at "rd"
    have hl := Vb.upto_len (n := 101)
    have h0 : 0 < (Vb.upto 101).length := List.length_pos_of_mem (Vb.mem_upto.mpr ⟨(Vb.isP_iff 2).mp (by decide +kernel), by decide⟩)
    refine use_edge (hS.same e1) (by rw [List.length_map]; omega) fun v H2 a1 a2 _ f2 S2 => ?_
    rw [List.length_map] at a2
    have hlt : v.toNat < (Vb.upto 101).length := by omega
    refine Vb.r_ixL (Vb.sq_of (f2.k _ _ (hS.ne np) hp)) (Vb.at_lit v.toNat (by omega) (Vb.getV hlt)) ?_
    obtain ⟨g1, g2⟩ := Vb.mem_upto.mp (List.getElem_mem hlt)
    exact q _ _ g1 g2 ((Vb.Fr.of e1).trans f2) S2
end
end K
namespace K
open PySem PySem.Spec PyProof.Rows L2
abbrev N_is_number : List Str := ["prime", "value"]
theorem sc_is_number : FnScope N_is_number ["prime", "value"] (defScope s_is_number) := ⟨rfl, rfl, rfl, by decide +kernel, rfl, by decide +kernel, by decide +kernel⟩
section
variable {P : Program} {w : World} {K : PySem.W.Frag} {mg : Str → Option Value} {base : Heap}
/-- a number of the field of p -/
def inField (p : Int) : PyData → Bool | .int n => decide (0 ≤ n) && decide (n < p) | _ => false
theorem inField_int {p n : Int} : inField p (.int n) = true ↔ 0 ≤ n ∧ n < p := by
  show (decide (0 ≤ n) && decide (n < p)) = true ↔ _
  rw [Bool.and_eq_true, decide_eq_true_iff, decide_eq_true_iff]
theorem inField_of {p : Int} {d : PyData} (h : inField p d = true) : ∃ n, d = .int n ∧ 0 ≤ n ∧ n < p := by
  cases d <;> first | (cases h; done) | exact ⟨_, rfl, inField_int.mp h⟩
def sp_number (K : PySem.W.Frag) : Sp := fun vs H Q _ => ∃ (p : Int) (v : V) (d : PyData), vs = [.int p, v] ∧ Dp K H v d ∧ Q (.bl (inField p d)) H
theorem use_number {p : Int} {v : V} {d : PyData} {b : Bool} {H : Hp} {Q : VK} {E : XK} (h : Dp K H v d) (e : inField p d = b) (q : Q (.bl b) H) : sp_number K [.int p, v] H Q E := ⟨p, v, d, rfl, h, by rw [e]; exact q⟩
theorem ok_number (T : Txt K mg) : FnOk P w K mg base (L2N.CX P w) 2 T.f_is_number T.fd_is_number ["prime", "value"] (sp_number K) := by
  have G_is_whole := ok_whole (P := P) (w := w) (base := base) T
  refine Vb.okN T.d_is_number.F sc_is_number (fun vs H Q E h => ?_) (fun cdv A outer s H vs Q E hr h => ?_)
  · obtain ⟨a, b, c, rfl, _⟩ := h
    rfl
  · obtain ⟨p, v, d, rfl, hd, q⟩ := h
    refine ⟨_, (pss_one (ps_ret (pe_and (pe_callS G_is_whole (hr.mono (by first | decide | omega)) (by rfl) T.d_is_whole.g T.d_is_whole.F.kp T.d_is_whole.b (fun σ => L2N.passAt (L2N.takes_of rfl rfl rfl rfl) σ) (pa_cons (pv 1) pa_nil)) (pe_one (pe_chain op_le op_lt pe_int (pv 1) (pv 0)))))), ?_⟩
    (change (_ : L2.TS) _ ([some (.int p), some (v)] : L2.St) _); try dsimp only [L2.cxOf, L2H.cxH]
    walk_at "rd"
    cases hw : whole d with
    | false =>
      refine use_whole hd hw ?_
      walk_at "rd"
      have hf : inField p d = false := by cases d <;> first | rfl | cases hw
      rw [hf] at q
      exact q
    | true =>
      refine use_whole hd hw ?_
      cases d <;> first | (cases hw; done) | skip
      rename_i n
      cases hd
      walk_at "rd"
      have e : inField p (.int n) = (decide (0 ≤ n) && decide (n < p)) := rfl
      rw [e] at q
      refine Vb.r_ite (fun c => ?_) (fun c => ?_)
      · rw [decide_eq_true c] at q
        walk_at "rd"
        exact q
      · rw [decide_eq_false c] at q
        exact q
end
end K
namespace K
open PySem PySem.Spec PyProof.Rows L2
abbrev N_check_number : List Str := ["prime", "value"]
theorem sc_check_number : FnScope N_check_number ["prime", "value"] (defScope s_check_number) := ⟨rfl, rfl, rfl, by decide +kernel, rfl, by decide +kernel, by decide +kernel⟩
section
variable {P : Program} {w : World} {K : PySem.W.Frag} {mg : Str → Option Value} {base : Heap}
def sp_checknum (K : PySem.W.Frag) (C : Addr) : Sp := fun vs H Q E => ∃ (p : Int) (v : V) (d : PyData), vs = [.int p, v] ∧ Dp K H v d ∧ (inField p d = true → Q .non H) ∧ (inField p d = false → ∀ dd : Addr, H dd = none → E (.ref C) (some dd) (upd H dd (.xd [("value", v)])))
theorem ok_checknum (T : Txt K mg) : FnOk P w K mg base (L2N.CX P w) 3 T.f_check_number T.fd_check_number ["prime", "value"] (sp_checknum K T.C_NotInField) := by
  have G_is_number := ok_number (P := P) (w := w) (base := base) T
  refine Vb.okN T.d_check_number.F sc_check_number (fun vs H Q E h => ?_) (fun cdv A outer s H vs Q E hr h => ?_)
  · obtain ⟨a, b, c, rfl, _⟩ := h
    rfl
  · obtain ⟨p, v, d, rfl, hd, q1, q2⟩ := h
    refine ⟨_, (pss_one (ps_if (pt_not (pt_val (pe_callS G_is_number (hr.mono (by first | decide | omega)) (by rfl) T.d_is_number.g T.d_is_number.F.kp T.d_is_number.b (fun σ => L2N.passAt (L2N.takes_of rfl rfl rfl rfl) σ) (pa_cons (pv 0) (pa_cons (pv 1) pa_nil))))) (pss_one (L2N.ps_raise rfl (L2N.takes_of rfl rfl rfl rfl) (L2.pmk_value T.i_NotInField (hr.mono (by decide) : Room 1 _) (by exact (pa_cons (pv 1) pa_nil)) rfl))) pss_nil)), ?_⟩
    (change (_ : L2.TS) _ ([some (.int p), some (v)] : L2.St) _); try dsimp only [L2.cxOf, L2H.cxH]
    walk_at "rd"
    cases hw : inField p d with
    | false =>
      refine use_number hd hw ?_
      walk_at "rd"
      exact ⟨_, rfl, _, rfl, fun dd n => q2 hw dd n⟩
    | true =>
      refine use_number hd hw ?_
      walk_at "rd"
      exact q1 hw
end
end K
namespace K
open PySem PySem.Spec PyProof.Rows L2
section
/-- a whole number from least to most -/
def inRange (lo hi : Int) : PyData → Bool | .int n => decide (lo ≤ n) && decide (n ≤ hi) | _ => false
theorem inRange_int {lo hi n : Int} : inRange lo hi (.int n) = true ↔ lo ≤ n ∧ n ≤ hi := by
  show (decide (lo ≤ n) && decide (n ≤ hi)) = true ↔ _
  rw [Bool.and_eq_true, decide_eq_true_iff, decide_eq_true_iff]
theorem inRange_of {lo hi : Int} {d : PyData} (h : inRange lo hi d = true) : ∃ n, d = .int n ∧ lo ≤ n ∧ n ≤ hi := by
  cases d <;> first | (cases h; done) | exact ⟨_, rfl, inRange_int.mp h⟩
end
end K
namespace K
open PySem PySem.Spec PyProof.Rows L2
abbrev N_check_range : List Str := ["value", "least", "most"]
theorem sc_check_range : FnScope N_check_range ["value", "least", "most"] (defScope s_check_range) := ⟨rfl, rfl, rfl, by decide +kernel, rfl, by decide +kernel, by decide +kernel⟩
section
variable {P : Program} {w : World} {K : PySem.W.Frag} {mg : Str → Option Value} {base : Heap}
def sp_checkrange (K : PySem.W.Frag) (C : Addr) : Sp := fun vs H Q E => ∃ (v : V) (lo hi : Int) (d : PyData), vs = [v, .int lo, .int hi] ∧ Dp K H v d ∧ (inRange lo hi d = true → Q .non H) ∧ (inRange lo hi d = false → E (.ref C) none H)
theorem ok_checkrange (T : Txt K mg) : FnOk P w K mg base (L2N.CX P w) 2 T.f_check_range T.fd_check_range ["value", "least", "most"] (sp_checkrange K T.C_OutOfRange) := by
  have G_is_whole := ok_whole (P := P) (w := w) (base := base) T
  refine Vb.okN T.d_check_range.F sc_check_range (fun vs H Q E h => ?_) (fun cdv A outer s H vs Q E hr h => ?_)
  · obtain ⟨a, b, c, d, rfl, _⟩ := h
    rfl
  · obtain ⟨v, lo, hi, d, rfl, hd, q1, q2⟩ := h
    refine ⟨_, (pss_one (ps_if (PW.pt (pw_or (pt_not (pt_val (pe_callS G_is_whole (hr.mono (by first | decide | omega)) (by rfl) T.d_is_whole.g T.d_is_whole.F.kp T.d_is_whole.b (fun σ => L2N.passAt (L2N.takes_of rfl rfl rfl rfl) σ) (pa_cons (pv 0) pa_nil)))) (pw_or1 (pt_not (pt_chain op_le op_le (pv 1) (pv 0) (pv 2)))))) (pss_one (L2N.ps_raise rfl (L2N.takes_of rfl rfl rfl rfl) (Vb.pmk0 T.x_OutOfRange rfl))) pss_nil)), ?_⟩
    (change (_ : L2.TS) _ ([some (v), some (.int lo), some (.int hi)] : L2.St) _); try dsimp only [L2.cxOf, L2H.cxH]
    walk_at "rd"
    cases hw : whole d with
    | false =>
      refine use_whole hd hw ?_
      walk_at "rd"
      have hf : inRange lo hi d = false := by cases d <;> first | rfl | cases hw
      exact q2 hf
    | true =>
      refine use_whole hd hw ?_
      cases d <;> first | (cases hw; done) | skip
      rename_i n
      cases hd
      walk_at "rd"
      have e : inRange lo hi (.int n) = (decide (lo ≤ n) && decide (n ≤ hi)) := rfl
      rw [e] at q1 q2
      refine Vb.r_ite (fun c => ?_) (fun c => ?_)
      · rw [decide_eq_true c] at q1 q2
        walk_at "rd"
        cases c2 : decide (n ≤ hi) with
        | true =>
          rw [c2] at q1
          walk_at "rd"
          exact q1 rfl
        | false =>
          rw [c2] at q2
          walk_at "rd"
          exact q2 rfl
      · rw [decide_eq_false c] at q2
        walk_at "rd"
        exact q2 rfl
end
end K
namespace K
open PySem PySem.Spec PyProof.Rows L2
abbrev N_power_modulo : List Str := ["prime", "number", "exponent", "result"]
theorem sc_power_modulo : FnScope N_power_modulo ["prime", "number", "exponent"] (defScope s_power_modulo) := ⟨rfl, rfl, rfl, by decide +kernel, rfl, by decide +kernel, by decide +kernel⟩
section
variable {P : Program} {w : World} {K : PySem.W.Frag} {mg : Str → Option Value} {base : Heap}
theorem pow_emod (a p : Int) : ∀ k : Nat, (a % p) ^ k % p = a ^ k % p
  | 0 => by rw [Int.pow_zero, Int.pow_zero]
  | k + 1 => by rw [Int.pow_succ, Int.mul_emod, pow_emod a p k, Int.emod_emod, ← Int.mul_emod, ← Int.pow_succ]
theorem pow_two_mul (a : Int) : ∀ k : Nat, (a * a) ^ k = a ^ (2 * k)
  | 0 => by rw [Int.pow_zero, Nat.mul_zero, Int.pow_zero]
  | k + 1 => by rw [Int.pow_succ, pow_two_mul a k, show 2 * (k + 1) = 2 * k + 1 + 1 by omega, Int.pow_succ, Int.pow_succ, Int.mul_assoc]
theorem mod_mul {r a b p : Int} (h : a % p = b % p) : (r * a) % p = (r * b) % p := by rw [Int.mul_emod, h, ← Int.mul_emod]
theorem mod_mul_left {r s a p : Int} (h : r % p = s % p) : (r * a) % p = (s * a) % p := by rw [Int.mul_emod, h, ← Int.mul_emod]
/-- a turn of the powers: the exponent is halved -/
theorem pow_half (r N p : Int) (k : Nat) : (r * (N * N % p) ^ k) % p = (r * N ^ (2 * k)) % p := by
  rw [← pow_two_mul]
  exact mod_mul (pow_emod _ _ _)
def sp_powmod (K : PySem.W.Frag) : Sp := fun vs H Q _ => ∃ (p n : Int) (e : Nat), vs = [.int p, .int n, .int e] ∧ (2 ≤ p ∧ p ≤ 101) ∧ (0 ≤ n ∧ n < p) ∧ Q (.int (n ^ e % p)) H
theorem use_powmod {p n z : Int} {H : Hp} {Q : VK} {E : XK} (h : 2 ≤ p ∧ p ≤ 101) (hn : 0 ≤ n ∧ n < p) (hz : 0 ≤ z) (q : Q (.int (n ^ z.toNat % p)) H) : sp_powmod K [.int p, .int n, .int z] H Q E := ⟨p, n, z.toNat, by rw [Int.toNat_of_nonneg hz], h, hn, q⟩
theorem ok_powmod (T : Txt K mg) : FnOk P w K mg base (L2N.CX P w) 1 T.f_power_modulo T.fd_power_modulo ["prime", "number", "exponent"] (sp_powmod K) := by
  refine Vb.okN T.d_power_modulo.F sc_power_modulo (fun vs H Q E h => ?_) (fun cdv A outer s H vs Q E hr h => ?_)
  · obtain ⟨a, b, c, rfl, _⟩ := h
    rfl
  · obtain ⟨p, n, e, rfl, ⟨hp, hp2⟩, ⟨hn, hn2⟩, q⟩ := h
    refine ⟨_, (pss_cons (ps_set (i := 3) sc_power_modulo.nd rfl (by first | exact Or.inl rfl | exact Or.inr rfl) pe_int)
      (pss_cons (ps_while (L2.passes_of rfl) (pt_cmpR op_gt (pv 2) pe_int (nomark _)) (pss_cons (ps_if (pt_cmpR op_eq (pe_op op_mod (pv 2) pe_int) pe_int (nomark _)) (pss_one (ps_set (i := 3) sc_power_modulo.nd rfl (by first | exact Or.inl rfl | exact Or.inr rfl) (pe_op op_mod (pe_op op_mul (pv 3) (pv 1)) (pv 0)))) pss_nil)
      (pss_cons (ps_set (i := 1) sc_power_modulo.nd rfl (by first | exact Or.inl rfl | exact Or.inr rfl) (pe_op op_mod (pe_op op_mul (pv 1) (pv 1)) (pv 0)))
      (pss_one (ps_set (i := 2) sc_power_modulo.nd rfl (by first | exact Or.inl rfl | exact Or.inr rfl) (pe_op op_fdiv (pv 2) pe_int))))))
      (pss_one (ps_ret (pv 3))))), ?_⟩
    (change (_ : L2.TS) _ ([some (.int p), some (.int n), some (.int e), none] : L2.St) _); try dsimp only [L2.cxOf, L2H.cxH]
    walk_at "rd"
    refine Vb.r_while (fun m σ H' => H' = H ∧ ∃ (r N : Int), σ = [some (.int p), some (.int N), some (.int (m : Nat)), some (.int r)] ∧ (0 ≤ r ∧ r < p) ∧ (0 ≤ N ∧ N < p) ∧ (r * N ^ m) % p = n ^ e % p) e ⟨rfl, 1, n, rfl, ⟨by omega, by omega⟩, ⟨hn, hn2⟩, by rw [Int.one_mul]⟩ ?_
    rintro m σ H' ⟨rfl, r, N, rfl, ⟨h0, h1⟩, ⟨h2, h3⟩, hm⟩
    have hmul : ∀ {a b : Int}, 0 ≤ a → a < p → 0 ≤ b → b < p → 0 ≤ a * b ∧ a * b ≤ 101 * 101 := fun x1 x2 x3 x4 => ⟨Int.mul_nonneg x1 x3, Int.mul_le_mul (by omega) (by omega) x3 (by omega)⟩
    have hmod : ∀ z : Int, 0 ≤ z % p ∧ z % p < p := fun z => ⟨Int.emod_nonneg _ (by omega), Int.emod_lt_of_pos _ (by omega)⟩
    walk_at "rd"
    refine Vb.r_ite (fun c1 => ?_) (fun c1 => ?_)
    · refine Vb.wh_body ?_
      walk_at "rd"
      have hdiv : (m : Int) / 2 = ((m / 2 : Nat) : Int) := by omega
      refine Vb.r_ite (fun c2 => ?_) (fun c2 => ?_)
      · walk_at "rd"
        refine ⟨m / 2, by omega, rfl, _, _, by rw [hdiv]; rfl, hmod _, hmod _, ?_⟩
        rw [pow_half, mod_mul_left (Int.emod_emod _ _), ← hm, Int.mul_assoc, Int.mul_comm N, ← Int.pow_succ, show (2 * (m / 2)).succ = m by omega]
      · walk_at "rd"
        refine ⟨m / 2, by omega, rfl, _, _, by rw [hdiv]; rfl, ⟨h0, h1⟩, hmod _, ?_⟩
        rw [pow_half, ← hm, show 2 * (m / 2) = m by omega]
    · walk_at "rd"
      have e0 : m = 0 := by omega
      subst e0
      rw [← hm, Int.pow_zero, Int.mul_one, Int.emod_eq_of_lt h0 h1] at q
      exact q
end
end K
namespace K
open PySem PySem.Spec PyProof.Rows L2
abbrev N__law_number : List Str := ["store", "prime"]
theorem sc__law_number : FnScope N__law_number ["store", "prime"] (defScope s__law_number) := ⟨rfl, rfl, rfl, by decide +kernel, rfl, by decide +kernel, by decide +kernel⟩
section
variable {P : Program} {w : World} {K : PySem.W.Frag} {mg : Str → Option Value} {base : Heap}
def sp_lawnumber (K : PySem.W.Frag) : Sp := fun vs H Q _ => ∃ (st : Addr) (p : Int), vs = [.ref st, .int p] ∧ Vb.StoreAt H st ∧ (1 ≤ p ∧ p ≤ 101) ∧ ∀ (n : Int) (H' : Hp), 0 ≤ n → n < p → Vb.Fr st H H' → Vb.StoreAt H' st → Q (.int n) H'
theorem use_lawnumber {st : Addr} {p : Int} {H : Hp} {Q : VK} {E : XK} (h1 : Vb.StoreAt H st) (h2 : 1 ≤ p ∧ p ≤ 101) (h : ∀ (n : Int) (H' : Hp), 0 ≤ n → n < p → Vb.Fr st H H' → Vb.StoreAt H' st → Q (.int n) H') : sp_lawnumber K [.ref st, .int p] H Q E := ⟨st, p, rfl, h1, h2, h⟩
theorem ok_lawnumber (T : Txt K mg) : FnOk P w K mg base (L2N.CX P w) 4 T.f__law_number T.fd__law_number ["store", "prime"] (sp_lawnumber K) := by
  have G__law_edge := ok_edge (P := P) (w := w) (base := base) T
  refine Vb.okN T.d__law_number.F sc__law_number (fun vs H Q E h => ?_) (fun cdv A outer s H vs Q E hr h => ?_)
  · obtain ⟨a, b, rfl, _⟩ := h
    rfl
  · obtain ⟨st, p, rfl, hS, hp, q⟩ := h
    refine ⟨_, (pss_one (ps_ret (pe_callS G__law_edge (hr.mono (by first | decide | omega)) (by rfl) T.d__law_edge.g T.d__law_edge.F.kp T.d__law_edge.b (fun σ => L2N.passAt (L2N.takes_of rfl rfl rfl rfl) σ) (pa_cons (pv 0) (pa_cons pe_int (pa_cons (pe_op op_sub (pv 1) pe_int) pa_nil)))))), ?_⟩
    (change (_ : L2.TS) _ ([some (.ref st), some (.int p)] : L2.St) _); try dsimp only [L2.cxOf, L2H.cxH]
    walk_at "rd"
    refine use_edge hS (by omega) fun n H1 a1 a2 _ f1 S1 => ?_
    exact q _ _ a1 (by omega) f1 S1
end
end K
namespace K
open PySem PySem.Spec PyProof.Rows L2
abbrev N__law_bad_integer : List Str := ["store", "low", "high", "way"]
theorem sc__law_bad_integer : FnScope N__law_bad_integer ["store", "low", "high"] (defScope s__law_bad_integer) := ⟨rfl, rfl, rfl, by decide +kernel, rfl, by decide +kernel, by decide +kernel⟩
section
variable {P : Program} {w : World} {K : PySem.W.Frag} {mg : Str → Option Value} {base : Heap}
theorem odd_range {lo hi : Int} : ∀ d ∈ oddKinds, inRange lo hi d = false ∧ Vb.DOk 4 d := by
  intro d m
  refine ⟨?_, (odd_bad d m).2.2⟩
  have := (odd_bad d m).2.1
  cases d <;> first | rfl | cases this
theorem inRange_no {lo hi n : Int} (h : n < lo ∨ hi < n) : inRange lo hi (.int n) = false := by
  cases e : inRange lo hi (.int n) with
  | false => rfl
  | true => have := inRange_int.mp e; omega
theorem trk_fr {Z : List Addr} {st : Addr} {H H' : Hp} (t : Vb.Trk Z H) (f : Vb.Fr st H H') (S : Vb.StoreAt H' st) : Vb.Trk Z H' := fun z m => by
  obtain ⟨o, h⟩ := t z m
  by_cases e : z = st
  · obtain ⟨l, ns, a, b, c, d, n, h1, _⟩ := S
    exact ⟨_, by rw [e]; exact h1⟩
  · exact ⟨o, f.k _ _ e h⟩
def sp_badinteger (K : PySem.W.Frag) : Sp := fun vs H Q _ => ∃ (st : Addr) (lo hi : Int), vs = [.ref st, .int lo, .int hi] ∧ Vb.StoreAt H st ∧ lo ≤ hi ∧ ∀ (v : V) (d : PyData) (H' : Hp), inRange lo hi d = false → Vb.DOk 4 d → Vb.Fr st H H' → Vb.StoreAt H' st → (∀ Z, Vb.Trk Z H → Dp K (Vb.offs (st :: Z) H') v d) → Q v H'
theorem use_badinteger {st : Addr} {lo hi : Int} {H : Hp} {Q : VK} {E : XK} (h1 : Vb.StoreAt H st) (h2 : lo ≤ hi) (h : ∀ (v : V) (d : PyData) (H' : Hp), inRange lo hi d = false → Vb.DOk 4 d → Vb.Fr st H H' → Vb.StoreAt H' st → (∀ Z, Vb.Trk Z H → Dp K (Vb.offs (st :: Z) H') v d) → Q v H') : sp_badinteger K [.ref st, .int lo, .int hi] H Q E := ⟨st, lo, hi, rfl, h1, h2, h⟩
theorem ok_badinteger (T : Txt K mg) : FnOk P w K mg base (L2N.CX P w) 5 T.f__law_bad_integer T.fd__law_bad_integer ["store", "low", "high"] (sp_badinteger K) := by
  have G__law_take := ok_take (P := P) (w := w) (base := base) T
  have G__law_pick := ok_pick (P := P) (w := w) (base := base) T
  have G__law_other_kind := ok_kind (P := P) (w := w) (base := base) T
  refine Vb.okN T.d__law_bad_integer.F sc__law_bad_integer (fun vs H Q E h => ?_) (fun cdv A outer s H vs Q E hr h => ?_)
  · obtain ⟨a, b, c, rfl, _⟩ := h
    rfl
  · obtain ⟨st, lo, hi, rfl, hS, hb, q⟩ := h
    refine ⟨_, (pss_cons (ps_set (i := 3) sc__law_bad_integer.nd rfl (by first | exact Or.inl rfl | exact Or.inr rfl) (pe_callS G__law_take (hr.mono (by first | decide | omega)) (by rfl) T.d__law_take.g T.d__law_take.F.kp T.d__law_take.b (fun σ => L2N.passAt (L2N.takes_of rfl rfl rfl rfl) σ) (pa_cons (pv 0) (pa_cons pe_int pa_nil))))
      (pss_cons (ps_if (pt_cmpR op_eq (pv 3) pe_int (nomark _)) (pss_one (ps_ret (pe_op op_sub (pv 1) pe_int))) pss_nil)
      (pss_cons (ps_if (pt_cmpR op_eq (pv 3) pe_int (nomark _)) (pss_one (ps_ret (pe_op op_add (pv 2) pe_int))) pss_nil)
      (pss_cons (ps_if (pt_cmpR op_eq (pv 3) pe_int (nomark _)) (pss_one (ps_ret (pe_op op_sub (pe_op op_sub (pv 1) pe_int) (pe_callS G__law_take (hr.mono (by first | decide | omega)) (by rfl) T.d__law_take.g T.d__law_take.F.kp T.d__law_take.b (fun σ => L2N.passAt (L2N.takes_of rfl rfl rfl rfl) σ) (pa_cons (pv 0) (pa_cons pe_int pa_nil)))))) pss_nil)
      (pss_cons (ps_if (pt_cmpR op_eq (pv 3) pe_int (nomark _)) (pss_one (ps_ret (pe_op op_add (pe_op op_add (pv 2) pe_int) (pe_callS G__law_take (hr.mono (by first | decide | omega)) (by rfl) T.d__law_take.g T.d__law_take.F.kp T.d__law_take.b (fun σ => L2N.passAt (L2N.takes_of rfl rfl rfl rfl) σ) (pa_cons (pv 0) (pa_cons pe_int pa_nil)))))) pss_nil)
      (pss_cons (ps_if (pt_cmpR op_eq (pv 3) pe_int (nomark _)) (pss_one (ps_ret (pe_callS G__law_pick (hr.mono (by first | decide | omega)) (by rfl) T.d__law_pick.g T.d__law_pick.F.kp T.d__law_pick.b (fun σ => L2N.passAt (L2N.takes_of rfl rfl rfl rfl) σ) (pa_cons (pv 0) (pa_cons (pe_lst (pa_cons (pe_op op_add (pv 2) (pe_op Vb.op_powB pe_int pe_int)) (pa_cons (pe_op op_sub (pv 1) (pe_op Vb.op_powB pe_int pe_int)) pa_nil))) pa_nil))))) pss_nil)
      (pss_one (ps_ret (pe_callS G__law_other_kind (hr.mono (by first | decide | omega)) (by rfl) T.d__law_other_kind.g T.d__law_other_kind.F.kp T.d__law_other_kind.b (fun σ => L2N.passAt (L2N.takes_of rfl rfl rfl rfl) σ) (pa_cons (pv 0) pa_nil)))))))))), ?_⟩
    (change (_ : L2.TS) _ ([some (.ref st), some (.int lo), some (.int hi), none] : L2.St) _); try dsimp only [L2.cxOf, L2H.cxH]
    have qi : ∀ (n : Int) (H' : Hp), (n < lo ∨ hi < n) → Vb.Fr st H H' → Vb.StoreAt H' st → Q (.int n) H' := fun n H' h f S => q _ (.int n) _ (inRange_no h) trivial f S fun Z _ => .int n
    walk_at "rd"
    refine use_take hS (by decide) fun way H1 a1 a2 _ f1 S1 => ?_
    walk_at "rd"
    refine Vb.r_ite (fun c => ?_) (fun c => ?_)
    · walk_at "rd"
      exact qi _ _ (by omega) f1 S1
    walk_at "rd"
    refine Vb.r_ite (fun c => ?_) (fun c => ?_)
    · walk_at "rd"
      exact qi _ _ (by omega) f1 S1
    walk_at "rd"
    refine Vb.r_ite (fun c => ?_) (fun c => ?_)
    · walk_at "rd"
      refine use_take S1 (by decide) fun t H2 b1 _ _ f2 S2 => ?_
      walk_at "rd"
      exact qi _ _ (by omega) (f1.trans f2) S2
    walk_at "rd"
    refine Vb.r_ite (fun c => ?_) (fun c => ?_)
    · walk_at "rd"
      refine use_take S1 (by decide) fun t H2 b1 _ _ f2 S2 => ?_
      walk_at "rd"
      exact qi _ _ (by omega) (f1.trans f2) S2
    walk_at "rd"
    refine Vb.r_ite (fun c => ?_) (fun c => ?_)
    · walk_at "rd"
      refine ⟨Vb.size_ok (by show 2 ≤ 16777216; decide), fun l nl => ?_⟩
      walk_at "rd"
      have e := Vb.same_new (o := .lst [.int (hi + 10 ^ 40), .int (lo - 10 ^ 40)]) nl
      refine use_pick [.int (hi + 10 ^ 40), .int (lo - 10 ^ 40)] (S1.same e) (S1.ne nl) (Vb.sq_of upd_same) (by show 2 < 1000000; decide) (by simp) fun i x H2 h2 f2 S2 => ?_
      have m := List.mem_of_getElem? h2
      simp only [List.mem_cons, List.not_mem_nil, or_false] at m
      rcases m with rfl | rfl <;> exact qi _ _ (by omega) ((f1.trans (Vb.Fr.of e)).trans f2) S2
    walk_at "rd"
    refine use_kind S1 fun v d H2 m f2 S2 g => ?_
    obtain ⟨o1, o2⟩ := odd_range (lo := lo) (hi := hi) d m
    exact q _ _ _ o1 o2 (f1.trans f2) S2 fun Z t => g Z (trk_fr t f1 S1)
end
end K
namespace K
open PySem PySem.Spec PyProof.Rows L2
abbrev N__law_bad_number : List Str := ["store", "prime"]
theorem sc__law_bad_number : FnScope N__law_bad_number ["store", "prime"] (defScope s__law_bad_number) := ⟨rfl, rfl, rfl, by decide +kernel, rfl, by decide +kernel, by decide +kernel⟩
section
variable {P : Program} {w : World} {K : PySem.W.Frag} {mg : Str → Option Value} {base : Heap}
theorem range_field {p : Int} {d : PyData} (h : inRange 0 (p - 1) d = false) : inField p d = false := by
  cases e : inField p d with
  | false => rfl
  | true =>
    obtain ⟨n, rfl, h1, h2⟩ := inField_of e
    rw [inRange_int.mpr ⟨h1, by omega⟩] at h
    cases h
def sp_badnumber (K : PySem.W.Frag) : Sp := fun vs H Q _ => ∃ (st : Addr) (p : Int), vs = [.ref st, .int p] ∧ Vb.StoreAt H st ∧ 1 ≤ p ∧ ∀ (v : V) (d : PyData) (H' : Hp), inField p d = false → Vb.DOk 4 d → Vb.Fr st H H' → Vb.StoreAt H' st → (∀ Z, Vb.Trk Z H → Dp K (Vb.offs (st :: Z) H') v d) → Q v H'
theorem use_badnumber {st : Addr} {p : Int} {H : Hp} {Q : VK} {E : XK} (h1 : Vb.StoreAt H st) (h2 : 1 ≤ p) (h : ∀ (v : V) (d : PyData) (H' : Hp), inField p d = false → Vb.DOk 4 d → Vb.Fr st H H' → Vb.StoreAt H' st → (∀ Z, Vb.Trk Z H → Dp K (Vb.offs (st :: Z) H') v d) → Q v H') : sp_badnumber K [.ref st, .int p] H Q E := ⟨st, p, rfl, h1, h2, h⟩
theorem ok_badnumber (T : Txt K mg) : FnOk P w K mg base (L2N.CX P w) 6 T.f__law_bad_number T.fd__law_bad_number ["store", "prime"] (sp_badnumber K) := by
  have G__law_bad_integer := ok_badinteger (P := P) (w := w) (base := base) T
  refine Vb.okN T.d__law_bad_number.F sc__law_bad_number (fun vs H Q E h => ?_) (fun cdv A outer s H vs Q E hr h => ?_)
  · obtain ⟨a, b, rfl, _⟩ := h
    rfl
  · obtain ⟨st, p, rfl, hS, hp, q⟩ := h
    refine ⟨_, (pss_one (ps_ret (pe_callS G__law_bad_integer (hr.mono (by first | decide | omega)) (by rfl) T.d__law_bad_integer.g T.d__law_bad_integer.F.kp T.d__law_bad_integer.b (fun σ => L2N.passAt (L2N.takes_of rfl rfl rfl rfl) σ) (pa_cons (pv 0) (pa_cons pe_int (pa_cons (pe_op op_sub (pv 1) pe_int) pa_nil)))))), ?_⟩
    (change (_ : L2.TS) _ ([some (.ref st), some (.int p)] : L2.St) _); try dsimp only [L2.cxOf, L2H.cxH]
    walk_at "rd"
    refine use_badinteger hS (by omega) fun v d H1 h1 h2 f1 S1 g => ?_
    exact q _ _ _ (range_field h1) h2 f1 S1 g
end
end K
namespace K
open PySem PySem.Spec PyProof.Rows L2
abbrev N__law_bad_prime : List Str := ["store", "way"]
theorem sc__law_bad_prime : FnScope N__law_bad_prime ["store"] (defScope s__law_bad_prime) := ⟨rfl, rfl, rfl, by decide +kernel, rfl, by decide +kernel, by decide +kernel⟩
section
variable {P : Program} {w : World} {K : PySem.W.Frag} {mg : Str → Option Value} {base : Heap}
/-- no prime of a field -/
def sp_badprime (K : PySem.W.Frag) : Sp := fun vs H Q _ => ∃ (st : Addr), vs = [.ref st] ∧ Vb.StoreAt H st ∧ ∀ (v : V) (d : PyData) (H' : Hp), field d = false → Vb.DOk 4 d → Vb.Fr st H H' → Vb.StoreAt H' st → (∀ Z, Vb.Trk Z H → Dp K (Vb.offs (st :: Z) H') v d) → Q v H'
theorem field_no {n : Int} (h : 101 < n ∨ ¬ Vb.Prm n) : field (.int n) = false := by
  show (decide (n ≤ 101) && Vb.isP n) = false
  rcases h with h | h
  · rw [decide_eq_false (by omega)]
    rfl
  · cases e : Vb.isP n with
    | false => rw [Bool.and_false]
    | true => exact absurd ((Vb.isP_iff n).mp e) h
theorem prod_no {a b : Int} (h1 : 2 ≤ a) (h2 : 2 ≤ b) : ¬ Vb.Prm (a * b) := by
  have h3 : a * 2 ≤ a * b := Int.mul_le_mul_of_nonneg_left h2 (by omega)
  exact Vb.not_prm h1 (by omega) (Int.mul_emod_right ..)
theorem ok_badprime (T : Txt K mg) : FnOk P w K mg base (L2N.CX P w) 5 T.f__law_bad_prime T.fd__law_bad_prime ["store"] (sp_badprime K) := by
  have G__law_take := ok_take (P := P) (w := w) (base := base) T
  have G__law_prime := ok_prime (P := P) (w := w) (base := base) T
  have G__law_other_kind := ok_kind (P := P) (w := w) (base := base) T
  refine Vb.okN T.d__law_bad_prime.F sc__law_bad_prime (fun vs H Q E h => ?_) (fun cdv A outer s H vs Q E hr h => ?_)
  · obtain ⟨a, rfl, _⟩ := h
    rfl
  · obtain ⟨st, rfl, hS, q⟩ := h
    refine ⟨_, (pss_cons (ps_set (i := 1) sc__law_bad_prime.nd rfl (by first | exact Or.inl rfl | exact Or.inr rfl) (pe_callS G__law_take (hr.mono (by first | decide | omega)) (by rfl) T.d__law_take.g T.d__law_take.F.kp T.d__law_take.b (fun σ => L2N.passAt (L2N.takes_of rfl rfl rfl rfl) σ) (pa_cons (pv 0) (pa_cons pe_int pa_nil))))
      (pss_cons (ps_if (pt_cmpR op_eq (pv 1) pe_int (nomark _)) (pss_one (ps_ret (pe_op op_mul (pe_op op_add pe_int (pe_callS G__law_take (hr.mono (by first | decide | omega)) (by rfl) T.d__law_take.g T.d__law_take.F.kp T.d__law_take.b (fun σ => L2N.passAt (L2N.takes_of rfl rfl rfl rfl) σ) (pa_cons (pv 0) (pa_cons pe_int pa_nil)))) (pe_op op_add pe_int (pe_callS G__law_take (hr.mono (by first | decide | omega)) (by rfl) T.d__law_take.g T.d__law_take.F.kp T.d__law_take.b (fun σ => L2N.passAt (L2N.takes_of rfl rfl rfl rfl) σ) (pa_cons (pv 0) (pa_cons pe_int pa_nil))))))) pss_nil)
      (pss_cons (ps_if (pt_cmpR op_eq (pv 1) pe_int (nomark _)) (pss_one (ps_ret (pe_callS G__law_take (hr.mono (by first | decide | omega)) (by rfl) T.d__law_take.g T.d__law_take.F.kp T.d__law_take.b (fun σ => L2N.passAt (L2N.takes_of rfl rfl rfl rfl) σ) (pa_cons (pv 0) (pa_cons pe_int pa_nil))))) pss_nil)
      (pss_cons (ps_if (pt_cmpR op_eq (pv 1) pe_int (nomark _)) (pss_one (ps_ret (pe_un un_neg (pe_callS G__law_prime (hr.mono (by first | decide | omega)) (by rfl) T.d__law_prime.g T.d__law_prime.F.kp T.d__law_prime.b (fun σ => L2N.passAt (L2N.takes_of rfl rfl rfl rfl) σ) (pa_cons (pv 0) pa_nil))))) pss_nil)
      (pss_cons (ps_if (pt_cmpR op_eq (pv 1) pe_int (nomark _)) (pss_one (ps_ret (pe_op op_add pe_int (pe_callS G__law_take (hr.mono (by first | decide | omega)) (by rfl) T.d__law_take.g T.d__law_take.F.kp T.d__law_take.b (fun σ => L2N.passAt (L2N.takes_of rfl rfl rfl rfl) σ) (pa_cons (pv 0) (pa_cons pe_int pa_nil)))))) pss_nil)
      (pss_cons (ps_if (pt_cmpR op_eq (pv 1) pe_int (nomark _)) (pss_one (ps_ret (pe_op op_add (pe_op Vb.op_powB pe_int pe_int) (pe_callS G__law_take (hr.mono (by first | decide | omega)) (by rfl) T.d__law_take.g T.d__law_take.F.kp T.d__law_take.b (fun σ => L2N.passAt (L2N.takes_of rfl rfl rfl rfl) σ) (pa_cons (pv 0) (pa_cons pe_int pa_nil)))))) pss_nil)
      (pss_cons (ps_if (pt_cmpR op_eq (pv 1) pe_int (nomark _)) (pss_one (ps_ret (pe_op op_sub (pe_un un_neg pe_int) (pe_op op_mul (pe_callS G__law_take (hr.mono (by first | decide | omega)) (by rfl) T.d__law_take.g T.d__law_take.F.kp T.d__law_take.b (fun σ => L2N.passAt (L2N.takes_of rfl rfl rfl rfl) σ) (pa_cons (pv 0) (pa_cons pe_int pa_nil))) (pe_op Vb.op_powB pe_int pe_int))))) pss_nil)
      (pss_cons (ps_if (pt_cmpR op_eq (pv 1) pe_int (nomark _)) (pss_one (ps_ret (pe_op op_mul (pe_callS G__law_prime (hr.mono (by first | decide | omega)) (by rfl) T.d__law_prime.g T.d__law_prime.F.kp T.d__law_prime.b (fun σ => L2N.passAt (L2N.takes_of rfl rfl rfl rfl) σ) (pa_cons (pv 0) pa_nil)) (pe_callS G__law_prime (hr.mono (by first | decide | omega)) (by rfl) T.d__law_prime.g T.d__law_prime.F.kp T.d__law_prime.b (fun σ => L2N.passAt (L2N.takes_of rfl rfl rfl rfl) σ) (pa_cons (pv 0) pa_nil))))) pss_nil)
      (pss_one (ps_ret (pe_callS G__law_other_kind (hr.mono (by first | decide | omega)) (by rfl) T.d__law_other_kind.g T.d__law_other_kind.F.kp T.d__law_other_kind.b (fun σ => L2N.passAt (L2N.takes_of rfl rfl rfl rfl) σ) (pa_cons (pv 0) pa_nil)))))))))))), ?_⟩
    (change (_ : L2.TS) _ ([some (.ref st), none] : L2.St) _); try dsimp only [L2.cxOf, L2H.cxH]
    have qi : ∀ (n : Int) (H' : Hp), (101 < n ∨ ¬ Vb.Prm n) → Vb.Fr st H H' → Vb.StoreAt H' st → Q (.int n) H' := fun n H' h f S => q _ (.int n) _ (field_no h) trivial f S fun Z _ => .int n
    walk_at "rd"
    refine use_take hS (by decide) fun way H1 _ _ _ f1 S1 => ?_
    walk_at "rd"
    refine Vb.r_ite (fun c => ?_) (fun c => ?_)
    · walk_at "rd"
      refine use_take S1 (by decide) fun a H2 a1 a2 _ f2 S2 => ?_
      walk_at "rd"
      refine use_take S2 (by decide) fun b H3 b1 b2 _ f3 S3 => ?_
      walk_at "rd"
      exact qi _ _ (.inr (prod_no (by omega) (by omega))) ((f1.trans f2).trans f3) S3
    walk_at "rd"
    refine Vb.r_ite (fun c => ?_) (fun c => ?_)
    · walk_at "rd"
      refine use_take S1 (by decide) fun a H2 a1 a2 _ f2 S2 => ?_
      exact qi _ _ (.inr fun p => by have := p.1; have := a2 (by decide); omega) (f1.trans f2) S2
    walk_at "rd"
    refine Vb.r_ite (fun c => ?_) (fun c => ?_)
    · walk_at "rd"
      refine use_prime S1 fun a H2 a1 a2 f2 S2 => ?_
      walk_at "rd"
      exact qi _ _ (.inr fun p => by have := p.1; have := a1.1; omega) (f1.trans f2) S2
    walk_at "rd"
    refine Vb.r_ite (fun c => ?_) (fun c => ?_)
    · walk_at "rd"
      refine use_take S1 (by decide) fun a H2 a1 a2 _ f2 S2 => ?_
      walk_at "rd"
      exact qi _ _ (.inl (by omega)) (f1.trans f2) S2
    walk_at "rd"
    refine Vb.r_ite (fun c => ?_) (fun c => ?_)
    · walk_at "rd"
      refine use_take S1 (by decide) fun a H2 a1 a2 _ f2 S2 => ?_
      walk_at "rd"
      exact qi _ _ (.inl (Int.lt_of_lt_of_le (show (101 : Int) < 10 ^ Int.toNat 40 by decide +kernel) (by omega))) (f1.trans f2) S2
    walk_at "rd"
    refine Vb.r_ite (fun c => ?_) (fun c => ?_)
    · walk_at "rd"
      refine use_take S1 (by decide) fun a H2 a1 a2 _ f2 S2 => ?_
      walk_at "rd"
      exact qi _ _ (.inr fun p => by have := p.1; have := Int.mul_nonneg a1 (show (0 : Int) ≤ 10 ^ Int.toNat 40 by decide +kernel); omega) (f1.trans f2) S2
    walk_at "rd"
    refine Vb.r_ite (fun c => ?_) (fun c => ?_)
    · walk_at "rd"
      refine use_prime S1 fun a H2 a1 _ f2 S2 => ?_
      walk_at "rd"
      refine use_prime S2 fun b H3 b1 _ f3 S3 => ?_
      have := a1.1
      walk_at "rd"
      exact qi _ _ (.inr (prod_no a1.1 b1.1)) ((f1.trans f2).trans f3) S3
    walk_at "rd"
    refine ⟨st, rfl, S1, fun v d H2 m f2 S2 g => ?_⟩
    obtain ⟨m1, m2, m3⟩ := odd_bad d m
    exact q _ _ _ m1 m3 (f1.trans f2) S2 fun Z t => g Z (trk_fr t f1 S1)
end
end K
namespace K
open PySem PySem.Spec PyProof.Rows L2
abbrev N__law_big : List Str := ["store", "figures", "size", "way", "number", "k", "figure"]
theorem sc__law_big : FnScope N__law_big ["store", "figures"] (defScope s__law_big) := ⟨rfl, rfl, rfl, by decide +kernel, rfl, by decide +kernel, by decide +kernel⟩
section
variable {P : Program} {w : World} {K : PySem.W.Frag} {mg : Str → Option Value} {base : Heap}
theorem pow10_le (a : Nat) : ∀ k : Nat, (10 : Int) ^ a ≤ 10 ^ (a + k)
  | 0 => Int.le_refl _
  | k + 1 => by
    have h := pow10_le a k
    have h0 : (0 : Int) ≤ 10 ^ a := Int.pow_nonneg (by decide)
    rw [← Nat.add_assoc, Int.pow_succ]
    generalize (10 : Int) ^ (a + k) = X at h ⊢
    generalize (10 : Int) ^ a = Y at h h0 ⊢
    omega
def sp_big (K : PySem.W.Frag) : Sp := fun vs H Q _ => ∃ (st : Addr) (f : Int), vs = [.ref st, .int f] ∧ Vb.StoreAt H st ∧ (1 ≤ f ∧ f ≤ 1000) ∧ ∀ (n : Int) (H' : Hp), 0 ≤ n → n < 10 ^ f.toNat → Vb.Fr st H H' → Vb.StoreAt H' st → Q (.int n) H'
theorem use_big {st : Addr} {f : Int} {H : Hp} {Q : VK} {E : XK} (h1 : Vb.StoreAt H st) (h2 : 1 ≤ f ∧ f ≤ 1000) (h : ∀ (n : Int) (H' : Hp), 0 ≤ n → n < 10 ^ f.toNat → Vb.Fr st H H' → Vb.StoreAt H' st → Q (.int n) H') : sp_big K [.ref st, .int f] H Q E := ⟨st, f, rfl, h1, h2, h⟩
theorem ok_big (T : Txt K mg) : FnOk P w K mg base (L2N.CX P w) 4 T.f__law_big T.fd__law_big ["store", "figures"] (sp_big K) := by
  have G__law_edge := ok_edge (P := P) (w := w) (base := base) T
  have G__law_take := ok_take (P := P) (w := w) (base := base) T
  refine Vb.okN T.d__law_big.F sc__law_big (fun vs H Q E h => ?_) (fun cdv A outer s H vs Q E hr h => ?_)
  · obtain ⟨a, b, rfl, _⟩ := h
    rfl
  · obtain ⟨st, f, rfl, hS, hf, q⟩ := h
    refine ⟨_, (pss_cons (ps_set (i := 2) sc__law_big.nd rfl (by first | exact Or.inl rfl | exact Or.inr rfl) (pe_callS G__law_edge (hr.mono (by first | decide | omega)) (by rfl) T.d__law_edge.g T.d__law_edge.F.kp T.d__law_edge.b (fun σ => L2N.passAt (L2N.takes_of rfl rfl rfl rfl) σ) (pa_cons (pv 0) (pa_cons pe_int (pa_cons (pe_callB (Vb.call_max2 rfl) (by rfl) T.n_max (by decide +kernel) (pa_cons pe_int (pa_cons (pv 1) pa_nil))) pa_nil)))))
      (pss_cons (ps_set (i := 3) sc__law_big.nd rfl (by first | exact Or.inl rfl | exact Or.inr rfl) (pe_callS G__law_take (hr.mono (by first | decide | omega)) (by rfl) T.d__law_take.g T.d__law_take.F.kp T.d__law_take.b (fun σ => L2N.passAt (L2N.takes_of rfl rfl rfl rfl) σ) (pa_cons (pv 0) (pa_cons pe_int pa_nil))))
      (pss_cons (ps_set (i := 4) sc__law_big.nd rfl (by first | exact Or.inl rfl | exact Or.inr rfl) pe_int)
      (pss_cons (ps_for (L2.passes_of rfl) rfl (pi_range1 rfl T.n_range (pa_cons (pv 2) pa_nil)) (pg_name (i := 5) sc__law_big.nd rfl (by first | exact Or.inl rfl | exact Or.inr rfl))
        (pss_cons (ps_set (i := 6) sc__law_big.nd rfl (by first | exact Or.inl rfl | exact Or.inr rfl) (pe_callTy Vb.call_int (by rfl) T.n_int (by decide +kernel) (pa_cons (pe_cmpR op_eq (pv 5) pe_int (nomark _)) pa_nil)))
      (pss_cons (ps_if (pt_cmpR op_eq (pv 3) pe_int (nomark _)) (pss_one (ps_set (i := 6) sc__law_big.nd rfl (by first | exact Or.inl rfl | exact Or.inr rfl) pe_int)) (pss_one (ps_if (pt_cmpR op_ne (pv 3) pe_int (nomark _)) (pss_one (ps_set (i := 6) sc__law_big.nd rfl (by first | exact Or.inl rfl | exact Or.inr rfl) (pe_callS G__law_take (hr.mono (by first | decide | omega)) (by rfl) T.d__law_take.g T.d__law_take.F.kp T.d__law_take.b (fun σ => L2N.passAt (L2N.takes_of rfl rfl rfl rfl) σ) (pa_cons (pv 0) (pa_cons pe_int pa_nil))))) pss_nil)))
      (pss_one (ps_set (i := 4) sc__law_big.nd rfl (by first | exact Or.inl rfl | exact Or.inr rfl) (pe_op op_add (pe_op op_mul (pv 4) pe_int) (pv 6)))))))
      (pss_one (ps_ret (pv 4))))))), ?_⟩
    (change (_ : L2.TS) _ ([some (.ref st), some (.int f), none, none, none, none, none] : L2.St) _); try dsimp only [L2.cxOf, L2H.cxH]
    walk_at "rd"
    have hm : (if f > 1 then f else 1) = f := by split <;> omega
    rw [hm]
    refine use_edge hS (by omega) fun z H1 a1 a2 _ f1 S1 => ?_
    have hz : 1 ≤ z ∧ z ≤ f := ⟨a1, a2 hf.1⟩
    walk_at "rd"
    refine use_take S1 (by decide) fun way H2 b1 b2 _ f2 S2 => ?_
    walk_at "rd"
    refine Vb.lp_range (fun i σ H' => ∃ (n : Int) (y u : Option V), 0 ≤ n ∧ n < 10 ^ i ∧ Vb.Fr st H2 H' ∧ Vb.StoreAt H' st ∧ σ = [some (.ref st), some (.int f), some (.int z), some (.int way), some (.int n), y, u]) ⟨0, _, _, by omega, by decide, Vb.Fr.refl _ _, S2, rfl⟩ ?_ ?_
    · rintro i σ H' hi ⟨n, y, u, n0, n1, f3, S3, rfl⟩
      have hn : ∀ g : Int, 0 ≤ g → g ≤ 9 → 0 ≤ n * 10 + g ∧ n * 10 + g < 10 ^ (i + 1) := fun g g0 g1 => by
        rw [Int.pow_succ]
        generalize (10 : Int) ^ i = X at n1 ⊢
        omega
      walk_at "rd"
      refine Vb.r_ite (fun c1 => ?_) (fun c1 => ?_)
      · walk_at "rd"
        exact ⟨_, _, _, (hn 9 (by decide) (by decide)).1, (hn 9 (by decide) (by decide)).2, f3, S3, rfl⟩
      walk_at "rd"
      refine Vb.r_iteN (fun c2 => ?_) (fun c2 => ?_)
      · walk_at "rd"
        refine use_take S3 (by decide) fun g H4 g0 g1 _ f4 S4 => ?_
        have g2 := g1 (by decide)
        walk_at "rd"
        exact ⟨_, _, _, (hn g g0 (by omega)).1, (hn g g0 (by omega)).2, f3.trans f4, S4, rfl⟩
      · walk_at "rd"
        have hk : ∀ b : Bool, (0 : Int) ≤ (if b = true then 1 else 0) ∧ (if b = true then 1 else 0) ≤ (9 : Int) := fun b => by cases b <;> decide
        have hk := hk (decide (0 + (i : Int) = 0))
        exact ⟨_, _, _, (hn _ hk.1 hk.2).1, (hn _ hk.1 hk.2).2, f3, S3, rfl⟩
    · rintro σ H' ⟨n, y, u, n0, n1, f3, S3, rfl⟩
      walk_at "rd"
      refine q n H' n0 (Int.lt_of_lt_of_le n1 ?_) (f1.trans (f2.trans f3)) S3
      obtain ⟨k, hk⟩ : ∃ k, f.toNat = z.toNat + k := ⟨f.toNat - z.toNat, by omega⟩
      rw [hk]
      exact pow10_le _ _
end
end K
namespace K
open PySem PySem.Spec PyProof.Rows L2
abbrev N_check_at_most : List Str := ["row", "most"]
theorem sc_check_at_most : FnScope N_check_at_most ["row", "most"] (defScope s_check_at_most) := ⟨rfl, rfl, rfl, by decide +kernel, rfl, by decide +kernel, by decide +kernel⟩
section
variable {P : Program} {w : World} {K : PySem.W.Frag} {mg : Str → Option Value} {base : Heap}
def sp_atmost (K : PySem.W.Frag) (L : Addr) : Sp := fun vs H Q E => ∃ (r : Addr) (xs : List V) (m : Int), vs = [.ref r, .int m] ∧ Vb.SqA K H r xs ∧ ((xs.length : Int) ≤ m → Q .non H) ∧ (m < (xs.length : Int) → E (.ref L) none H)
theorem ok_atmost (T : Txt K mg) : FnOk P w K mg base (L2N.CX P w) 1 T.f_check_at_most T.fd_check_at_most ["row", "most"] (sp_atmost K T.C_TooLarge) := by
  refine Vb.okN T.d_check_at_most.F sc_check_at_most (fun vs H Q E h => ?_) (fun cdv A outer s H vs Q E hr h => ?_)
  · obtain ⟨r, xs, m, rfl, _⟩ := h
    rfl
  · obtain ⟨r, xs, m, rfl, ha, q1, q2⟩ := h
    refine ⟨_, (pss_one (ps_if (pt_cmpR op_gt (pe_callB Vb.call_len (by rfl) T.n_len (by decide +kernel) (pa_cons (pv 0) pa_nil)) (pv 1) (nomark _)) (pss_one (L2N.ps_raise rfl (L2N.takes_of rfl rfl rfl rfl) (Vb.pmk0 T.x_TooLarge rfl))) pss_nil)), ?_⟩
    (change (_ : L2.TS) _ ([some (.ref r), some (.int m)] : L2.St) _); try dsimp only [L2.cxOf, L2H.cxH]
    walk_at "rd"
    refine Vb.r_ite (fun c => ?_) (fun c => ?_)
    · walk_at "rd"
      exact q2 c
    · walk_at "rd"
      exact q1 (by omega)
end
end K
namespace K
open PySem PySem.Spec PyProof.Rows L2

abbrev N_check_numbers : List Str := ["prime", "numbers", "number"]
theorem sc_check_numbers : FnScope N_check_numbers ["prime", "numbers"] (defScope s_check_numbers) := ⟨rfl, rfl, rfl, by decide +kernel, rfl, by decide +kernel, by decide +kernel⟩
section
variable {P : Program} {w : World} {K : PySem.W.Frag} {mg : Str → Option Value} {base : Heap}
def sp_checknums (K : PySem.W.Frag) (C : Addr) : Sp := fun vs H Q E => ∃ (p : Int) (a : Addr) (xs : List V) (ds : List PyData), vs = [.int p, .ref a] ∧ SqT K H a xs ∧ DpAll K H xs ds ∧ ((∀ d ∈ ds, inField p d = true) → Q .non H) ∧
  ∀ (i : Nat) (v : V) (d : PyData), xs[i]? = some v → ds[i]? = some d → (∀ (j : Nat) e, j < i → ds[j]? = some e → inField p e = true) → inField p d = false → ∀ dd : Addr, H dd = none → E (.ref C) (some dd) (upd H dd (.xd [("value", v)]))
theorem ok_checknums (T : Txt K mg) : FnOk P w K mg base (L2N.CX P w) 4 T.f_check_numbers T.fd_check_numbers ["prime", "numbers"] (sp_checknums K T.C_NotInField) := by
  have G_check_number := ok_checknum (P := P) (w := w) (base := base) T
  refine Vb.okN T.d_check_numbers.F sc_check_numbers (fun vs H Q E h => ?_) (fun cdv A outer s H vs Q E hr h => ?_)
  · obtain ⟨a, b, c, d, rfl, _⟩ := h
    rfl
  · obtain ⟨p, a, xs, ds, rfl, ha, hd, q1, q2⟩ := h
    refine ⟨_, (pss_one (ps_for (L2.passes_of rfl) rfl (pi_tup (pv 1)) (pg_name (i := 2) sc_check_numbers.nd rfl (by first | exact Or.inl rfl | exact Or.inr rfl))
        (pss_one (ps_expr (pe_callS G_check_number (hr.mono (by first | decide | omega)) (by rfl) T.d_check_number.g T.d_check_number.F.kp T.d_check_number.b (fun σ => L2N.passAt (L2N.takes_of rfl rfl rfl rfl) σ) (pa_cons (pv 0) (pa_cons (pv 2) pa_nil))))))), ?_⟩
    (change (_ : L2.TS) _ ([some (.int p), some (.ref a), none] : L2.St) _); try dsimp only [L2.cxOf, L2H.cxH]
    walk_at "rd"
    refine Vb.lp_tup (xs := xs) (fun i σ H' => H' = H ∧ (∀ (j : Nat) e, j < i → ds[j]? = some e → inField p e = true) ∧ ∃ y, σ = [some (.int p), some (.ref a), y]) ⟨rfl, fun j e h => by omega, none, rfl⟩ (fun i σ H' _ z => by rw [z.1]; exact ha) ?_ ?_
    · rintro i x σ H' hi ⟨rfl, hk, y, rfl⟩
      obtain ⟨d, hd1, hd2⟩ := Vb.dpa_get hd hi
      walk_at "rd"
      refine ⟨p, x, d, rfl, hd2, fun hf => ?_, fun hf => q2 i x d hi hd1 hk hf⟩
      walk_at "rd"
      refine ⟨rfl, fun j e h g => ?_, _, rfl⟩
      by_cases z : j < i
      · exact hk j e z g
      · rw [show j = i by omega, hd1] at g
        cases g
        exact hf
    · rintro σ H' ⟨rfl, hk, y, rfl⟩
      walk_at "rd"
      refine q1 fun d m => ?_
      obtain ⟨j, hj⟩ := List.getElem?_of_mem m
      exact hk j d (by rw [Vb.dpa_len hd]; exact (List.getElem?_eq_some_iff.mp hj).1) hj
end
end K
namespace K
open PySem PySem.Spec PyProof.Rows L2
abbrev N_Field___init__ : List Str := ["self", "prime"]
theorem sc_Field___init__ : FnScope N_Field___init__ ["self", "prime"] (defScope s_Field___init__) := ⟨rfl, rfl, rfl, by decide +kernel, rfl, by decide +kernel, by decide +kernel⟩
section
variable {P : Program} {w : World} {K : PySem.W.Frag} {mg : Str → Option Value} {base : Heap}
/-- a field of p at a -/
def FieldAt (C : Addr) (H : Hp) (a : Addr) (p : Int) : Prop := ∃ dx, H a = some (.ins C dx [("prime", .int p)])
theorem FieldAt.same {C : Addr} {H H' : Hp} {a : Addr} {p : Int} (h : FieldAt C H a p) (e : Same H H') : FieldAt C H' a p := h.elim fun dx h => ⟨dx, e _ _ h⟩
theorem FieldAt.fr {C : Addr} {H H' : Hp} {a st : Addr} {p : Int} (h : FieldAt C H a p) (e : Vb.Fr st H H') (n : a ≠ st) : FieldAt C H' a p := h.elim fun dx h => ⟨dx, e.k _ _ n h⟩
def sp_finit (K : PySem.W.Frag) (C N : Addr) : Sp := fun vs H Q E => ∃ (a dx : Addr) (v : V) (d : PyData), vs = [.ref a, v] ∧ H a = some (.ins C dx []) ∧ H dx = some (.own a) ∧ Dp K H v d ∧ (field d = true → Q .non (upd H a (.ins C dx [("prime", v)]))) ∧ (field d = false → ∀ dd : Addr, H dd = none → E (.ref N) (some dd) (upd H dd (.xd [("value", v)])))
theorem use_mkfield {C N : Addr} {p : Int} {H : Hp} {R : Addr → Hp → Prop} {E : XK} (h : Vb.Prm p) (l : p ≤ 101) (q : ∀ (x : Addr) (H' : Hp), H x = none → Same H H' → FieldAt C H' x p → R x H') :
    ∀ x dx, H x = none → H dx = none → dx ≠ x → sp_finit K C N [.ref x, .int p] (upd (upd H dx (.own x)) x (.ins C dx [])) (fun v H2 => v = .non ∧ R x H2) E := fun x dx nx ndx ne =>
  ⟨x, dx, .int p, .int p, rfl, upd_same, Vb.h_ne ne upd_same, .int p, fun _ => ⟨rfl, q x _ nx (Vb.same_mut (Vb.same_mut (Vb.same_new ndx) nx) nx) ⟨dx, upd_same⟩⟩, fun z => by rw [field_yes h l] at z; cases z⟩
theorem ok_finit (T : Txt K mg) : FnOk P w K mg base (L2N.CX P w) 4 T.f_Field___init__ T.fd_Field___init__ ["self", "prime"] (sp_finit K T.C_Field T.C_NotPrime) := by
  have G_check_prime := ok_check (P := P) (w := w) (base := base) T
  refine Vb.okN T.d_Field___init__.F sc_Field___init__ (fun vs H Q E h => ?_) (fun cdv A outer s H vs Q E hr h => ?_)
  · obtain ⟨a, b, c, d, rfl, _⟩ := h
    rfl
  · obtain ⟨a, dx, v, d, rfl, ha, hx, hd, q1, q2⟩ := h
    refine ⟨_, (pss_one (ps_fld (pv 0) (pe_callS G_check_prime (hr.mono (by first | decide | omega)) (by rfl) T.d_check_prime.g T.d_check_prime.F.kp T.d_check_prime.b (fun σ => L2N.passAt (L2N.takes_of rfl rfl rfl rfl) σ) (pa_cons (pv 1) pa_nil)) rfl)), ?_⟩
    (change (_ : L2.TS) _ ([some (.ref a), some (v)] : L2.St) _); try dsimp only [L2.cxOf, L2H.cxH]
    walk_at "rd"
    refine ⟨v, d, rfl, hd, fun hf => ?_, fun hf => q2 hf⟩
    walk_at "rd"
    exact ⟨a, _, _, _, rfl, ha, T.c_Field, T.a_Field_prime, by decide, q1 hf⟩
end
end K
namespace K
open PySem PySem.Spec PyProof.Rows L2
section
/-- a deed of a field with one number -/
def sp_f1 (K : PySem.W.Frag) (C N : Addr) (R : Int → Int → Hp → VK → XK → Prop) : Sp := fun vs H Q E => ∃ (a : Addr) (p : Int) (v : V) (d : PyData), vs = [.ref a, v] ∧ FieldAt C H a p ∧ (2 ≤ p ∧ p ≤ 101) ∧ Dp K H v d ∧
  (∀ x : Int, d = .int x → 0 ≤ x ∧ x < p → R p x H Q E) ∧ (inField p d = false → ∀ dd : Addr, H dd = none → E (.ref N) (some dd) (upd H dd (.xd [("value", v)])))
end
end K
namespace K
open PySem PySem.Spec PyProof.Rows L2
section
variable {P : Program} {w : World} {K : PySem.W.Frag} {mg : Str → Option Value} {base : Heap}
theorem pair_run {H : Hp} {p : Int} {l : Addr} {v1 v2 : V} {d1 d2 : PyData} {N : Addr} {Q : VK} {E : XK} (hl : H l = some (.tup [v1, v2])) (h1 : Dp K H v1 d1) (h2 : Dp K H v2 d2) (q : inField p d1 = true → inField p d2 = true → Q .non H)
    (q1 : inField p d1 = false → ∀ dd : Addr, H dd = none → E (.ref N) (some dd) (upd H dd (.xd [("value", v1)]))) (q2 : inField p d1 = true → inField p d2 = false → ∀ dd : Addr, H dd = none → E (.ref N) (some dd) (upd H dd (.xd [("value", v2)]))) : sp_checknums K N [.int p, .ref l] H Q E := by
  refine ⟨p, l, [v1, v2], [d1, d2], rfl, Vb.st_of hl, .cons h1 (.cons h2 .nil), fun h => q (h _ (by simp)) (h _ (by simp)), fun i v d hi hd hj hf dd n => ?_⟩
  rcases i with _ | _ | i
  · cases hi
    cases hd
    exact q1 hf dd n
  · cases hi
    cases hd
    exact q2 (hj 0 _ (by omega) rfl) hf dd n
  · simp at hi
end
end K
namespace K
open PySem PySem.Spec PyProof.Rows L2
abbrev N_Field_invert : List Str := ["self", "number"]
theorem sc_Field_invert : FnScope N_Field_invert ["self", "number"] (defScope s_Field_invert) := ⟨rfl, rfl, rfl, by decide +kernel, rfl, by decide +kernel, by decide +kernel⟩
section
variable {P : Program} {w : World} {K : PySem.W.Frag} {mg : Str → Option Value} {base : Heap}
theorem ok_finv (T : Txt K mg) : FnOk P w K mg base (L2N.CX P w) 4 T.f_Field_invert T.fd_Field_invert ["self", "number"] (sp_f1 K T.C_Field T.C_NotInField fun p x H Q E => (x = 0 → E (.ref T.C_DivisionByZero) none H) ∧ (x ≠ 0 → Q (.int (x ^ (p - 2).toNat % p)) H)) := by
  have G_check_number := ok_checknum (P := P) (w := w) (base := base) T
  have G_power_modulo := ok_powmod (P := P) (w := w) (base := base) T
  refine Vb.okN T.d_Field_invert.F sc_Field_invert (fun vs H Q E h => ?_) (fun cdv A outer s H vs Q E hr h => ?_)
  · obtain ⟨a, p, v, d, rfl, _⟩ := h
    rfl
  · obtain ⟨a, p, v, d, rfl, ⟨dx, ha⟩, hp, hd, q, q1⟩ := h
    refine ⟨_, (pss_cons (ps_expr (pe_callS G_check_number (hr.mono (by first | decide | omega)) (by rfl) T.d_check_number.g T.d_check_number.F.kp T.d_check_number.b (fun σ => L2N.passAt (L2N.takes_of rfl rfl rfl rfl) σ) (pa_cons (pe_fld (pv 0) (by rfl)) (pa_cons (pv 1) pa_nil))))
      (pss_cons (ps_if (pt_cmpR op_eq (pv 1) pe_int (nomark _)) (pss_one (L2N.ps_raise rfl (L2N.takes_of rfl rfl rfl rfl) (Vb.pmk0 T.x_DivisionByZero rfl))) pss_nil)
      (pss_one (ps_ret (pe_callS G_power_modulo (hr.mono (by first | decide | omega)) (by rfl) T.d_power_modulo.g T.d_power_modulo.F.kp T.d_power_modulo.b (fun σ => L2N.passAt (L2N.takes_of rfl rfl rfl rfl) σ) (pa_cons (pe_fld (pv 0) (by rfl)) (pa_cons (pv 1) (pa_cons (pe_op op_sub (pe_fld (pv 0) (by rfl)) pe_int) pa_nil)))))))), ?_⟩
    (change (_ : L2.TS) _ ([some (.ref a), some (v)] : L2.St) _); try dsimp only [L2.cxOf, L2H.cxH]
    walk_at "rd"
    refine ⟨_, _, _, _, _, rfl, ha, T.c_Field, T.a_Field_prime, rfl, ?_⟩
    walk_at "rd"
    refine ⟨p, v, d, rfl, hd, fun f1 => ?_, fun f1 dd n => q1 f1 dd n⟩
    obtain ⟨x, rfl, x1⟩ := inField_of f1
    cases hd
    obtain ⟨qz, qn⟩ := q x rfl x1
    walk_at "rd"
    refine Vb.r_ite (fun c => ?_) (fun c => ?_)
    · walk_at "rd"
      exact qz c
    · walk_at "rd"
      refine ⟨_, _, _, _, _, rfl, ha, T.c_Field, T.a_Field_prime, rfl, ?_⟩
      walk_at "rd"
      refine ⟨_, _, _, _, _, rfl, ha, T.c_Field, T.a_Field_prime, rfl, ?_⟩
      walk_at "rd"
      refine use_powmod hp x1 (by omega) ?_
      exact qn c
end
end K
namespace K
open PySem PySem.Spec PyProof.Rows L2
abbrev N_Field_divide : List Str := ["self", "number", "other_number"]
theorem sc_Field_divide : FnScope N_Field_divide ["self", "number", "other_number"] (defScope s_Field_divide) := ⟨rfl, rfl, rfl, by decide +kernel, rfl, by decide +kernel, by decide +kernel⟩
section
variable {P : Program} {w : World} {K : PySem.W.Frag} {mg : Str → Option Value} {base : Heap}
def sp_fdiv (K : PySem.W.Frag) (C N Z : Addr) : Sp := fun vs H Q E => ∃ (a : Addr) (p : Int) (v1 v2 : V) (d1 d2 : PyData), vs = [.ref a, v1, v2] ∧ FieldAt C H a p ∧ (2 ≤ p ∧ p ≤ 101) ∧ Dp K H v1 d1 ∧ Dp K H v2 d2 ∧
  (∀ (x y : Int) (H' : Hp), d1 = .int x → d2 = .int y → 0 ≤ x ∧ x < p → 0 ≤ y ∧ y < p → Same H H' → (y = 0 → E (.ref Z) none H') ∧ (y ≠ 0 → Q (.int (x * (y ^ (p - 2).toNat % p) % p)) H')) ∧
  (inField p d1 = false → ∀ (H' : Hp) (dd : Addr), Same H H' → H' dd = none → E (.ref N) (some dd) (upd H' dd (.xd [("value", v1)]))) ∧
  (inField p d1 = true → inField p d2 = false → ∀ (H' : Hp) (dd : Addr), Same H H' → H' dd = none → E (.ref N) (some dd) (upd H' dd (.xd [("value", v2)])))
theorem ok_fdiv (T : Txt K mg) : FnOk P w K mg base (L2N.CX P w) 5 T.f_Field_divide T.fd_Field_divide ["self", "number", "other_number"] (sp_fdiv K T.C_Field T.C_NotInField T.C_DivisionByZero) := by
  have G_check_numbers := ok_checknums (P := P) (w := w) (base := base) T
  have G_Field_invert := ok_finv (P := P) (w := w) (base := base) T
  refine Vb.okN T.d_Field_divide.F sc_Field_divide (fun vs H Q E h => ?_) (fun cdv A outer s H vs Q E hr h => ?_)
  · obtain ⟨a, p, v1, v2, d1, d2, rfl, _⟩ := h
    rfl
  · obtain ⟨a, p, v1, v2, d1, d2, rfl, ⟨dx, ha⟩, hp, h1, h2, q, q1, q2⟩ := h
    refine ⟨_, (pss_cons (ps_expr (pe_callS G_check_numbers (hr.mono (by first | decide | omega)) (by rfl) T.d_check_numbers.g T.d_check_numbers.F.kp T.d_check_numbers.b (fun σ => L2N.passAt (L2N.takes_of rfl rfl rfl rfl) σ) (pa_cons (pe_fld (pv 0) (by rfl)) (pa_cons (pe_tup (pa_cons (pv 1) (pa_cons (pv 2) pa_nil))) pa_nil))))
      (pss_one (ps_ret (pe_op op_mod (pe_op op_mul (pv 1) (Vb.pe_methP (pv 0) T.c_Field T.m_Field_invert G_Field_invert (hr.mono (by first | decide | omega)) T.d_Field_invert.b (fun σ => L2N.passAt (L2N.takes_of rfl rfl rfl rfl) σ) (pa_cons (pv 2) pa_nil))) (pe_fld (pv 0) (by rfl)))))), ?_⟩
    (change (_ : L2.TS) _ ([some (.ref a), some (v1), some (v2)] : L2.St) _); try dsimp only [L2.cxOf, L2H.cxH]
    walk_at "rd"
    refine ⟨_, _, _, _, _, rfl, ha, T.c_Field, T.a_Field_prime, rfl, ?_⟩
    walk_at "rd"
    refine ⟨Vb.size_ok (by show 2 ≤ 16777216; decide), fun l nl => ?_⟩
    walk_at "rd"
    have e := Vb.same_new (o := .tup [v1, v2]) nl
    refine pair_run upd_same (Vb.dp_same e _ _ h1) (Vb.dp_same e _ _ h2) (fun f1 f2 => ?_) (fun f1 dd n => q1 f1 _ dd e n) (fun f1 f2 dd n => q2 f1 f2 _ dd e n)
    obtain ⟨x, rfl, x1⟩ := inField_of f1
    obtain ⟨y, rfl, y1⟩ := inField_of f2
    cases h1
    cases h2
    obtain ⟨qz, qn⟩ := q x y _ rfl rfl x1 y1 e
    walk_at "rd"
    refine ⟨a, p, .int y, .int y, rfl, ⟨_, e _ _ ha⟩, hp, .int y, fun y' ey _ => ?_, fun f => by rw [f2] at f; cases f⟩
    cases ey
    refine ⟨fun z => qz z, fun z => ?_⟩
    walk_at "rd"
    refine ⟨_, _, _, _, _, rfl, e _ _ ha, T.c_Field, T.a_Field_prime, rfl, ?_⟩
    walk_at "rd"
    exact qn z
end
end K
namespace K
open PySem PySem.Spec PyProof.Rows L2
abbrev N__law_row : List Str := ["store", "row"]
theorem sc__law_row : FnScope N__law_row ["store", "row"] (defScope s__law_row) := ⟨rfl, rfl, rfl, by decide +kernel, rfl, by decide +kernel, by decide +kernel⟩
section
variable {P : Program} {w : World} {K : PySem.W.Frag} {mg : Str → Option Value} {base : Heap}
/-- a copy of a list or a tuple, as a list or a tuple -/
def sp_row (K : PySem.W.Frag) : Sp := fun vs H Q _ => ∃ (st a : Addr) (xs : List V), vs = [.ref st, .ref a] ∧ Vb.StoreAt H st ∧ a ≠ st ∧ Vb.SqA K H a xs ∧ ∀ (l : Addr) (H' : Hp), l ≠ st → Vb.SqA K H' l xs → ((H' l = some (.lst xs) ∧ H l = none) ∨ SqT K H' l xs) → Vb.Fr st H H' → Vb.StoreAt H' st → Q (.ref l) H'
theorem fr_free {H H' : Hp} {l st : Addr} (f : Vb.Fr st H H') (n : l ≠ st) (h : H' l = none) : H l = none := by
  cases e : H l with
  | none => rfl
  | some o => rw [f.k _ _ n e] at h; cases h
theorem sqA_fr {K : PySem.W.Frag} {H H' : Hp} {a st : Addr} {xs : List V} (S : Vb.StoreAt H st) (n : a ≠ st) (f : Vb.Fr st H H') (h : Vb.SqA K H a xs) : Vb.SqA K H' a xs := by
  rcases h with h | h
  · refine .inl ?_
    rcases h with h | h
    · rcases h with h | h
      · exact .inl (.inl (f.k _ _ n h))
      · obtain ⟨o, h⟩ := h
        exact .inl (.inr ⟨o, f.k _ _ n h⟩)
    · exact .inr h
  · exact .inr (Vb.sqT_fr f S h)
theorem ok_row (T : Txt K mg) : FnOk P w K mg base (L2N.CX P w) 3 T.f__law_row T.fd__law_row ["store", "row"] (sp_row K) := by
  have G__law_take := ok_take (P := P) (w := w) (base := base) T
  refine Vb.okN T.d__law_row.F sc__law_row (fun vs H Q E h => ?_) (fun cdv A outer s H vs Q E hr h => ?_)
  · obtain ⟨a, b, c, rfl, _⟩ := h
    rfl
  · obtain ⟨st, a, xs, rfl, hS, na, hw, q⟩ := h
    refine ⟨_, (pss_cons (ps_if (pt_cmpR op_eq (pe_callS G__law_take (hr.mono (by first | decide | omega)) (by rfl) T.d__law_take.g T.d__law_take.F.kp T.d__law_take.b (fun σ => L2N.passAt (L2N.takes_of rfl rfl rfl rfl) σ) (pa_cons (pv 0) (pa_cons pe_int pa_nil))) pe_int (nomark _)) (pss_one (ps_ret (pe_callTy Vb.call_list (by rfl) T.n_list (by decide +kernel) (pa_cons (pv 1) pa_nil)))) pss_nil)
      (pss_one (ps_ret (pe_callTy Vb.call_tuple (by rfl) T.n_tuple (by decide +kernel) (pa_cons (pv 1) pa_nil))))), ?_⟩
    (change (_ : L2.TS) _ ([some (.ref st), some (.ref a)] : L2.St) _); try dsimp only [L2.cxOf, L2H.cxH]
    walk_at "rd"
    refine use_take hS (by decide) fun t H1 _ _ _ f1 S1 => ?_
    have hw1 := sqA_fr hS na f1 hw
    walk_at "rd"
    refine Vb.r_ite (fun c => ?_) (fun c => ?_)
    · walk_at "rd"
      refine ⟨a, xs, rfl, hw1, fun l nl => ?_⟩
      exact q l _ (S1.ne nl) (.inl (Vb.sq_of upd_same)) (.inl ⟨upd_same, fr_free f1 (S1.ne nl) nl⟩) (f1.trans (Vb.Fr.of (Vb.same_new nl))) (S1.same (Vb.same_new nl))
    · walk_at "rd"
      rcases hw1 with hw1 | hw1
      · refine Vb.r_tupL hw1 fun l nl => ?_
        exact q l _ (S1.ne nl) (.inr (Vb.st_of upd_same)) (.inr (Vb.st_of upd_same)) (f1.trans (Vb.Fr.of (Vb.same_new nl))) (S1.same (Vb.same_new nl))
      · refine Vb.r_tupT hw1 ?_
        exact q a H1 na (.inr hw1) (.inr hw1) f1 S1
end
end K
namespace K
open PySem PySem.Spec PyProof.Rows L2

section
variable {P : Program} {w : World} {K : PySem.W.Frag} {mg : Str → Option Value} {base : Heap}
/-- a copy of a row of integers: a list (b) is copied to a new one -/
def sp_copyrow (K : PySem.W.Frag) : Sp := fun vs H Q _ => ∃ (a : Addr) (ns : List Int) (b : Bool), vs = [.ref a] ∧ (b = true → SqL K H a (ns.map V.int)) ∧ (b = false → SqT K H a (ns.map V.int)) ∧ ns.length ≤ 1000 ∧
  ∀ (l : Addr) (H' : Hp), Same H H' → H l = none → (b = true → H' l = some (.lst (ns.map V.int))) → (b = false → H' l = some (.tup (ns.map V.int))) → Q (.ref l) H'
theorem ok_copyrow (T : Txt K mg) : FnOk P w K mg base (L2N.CX P w) 5 T.f__law_copy T.fd__law_copy ["value"] (sp_copyrow K) := by
  have G__law_copy := ok_copy (P := P) (w := w) (base := base) T 3
  refine Vb.okN T.d__law_copy.F sc__law_copy (fun vs H Q E h => ?_) (fun cdv A outer s H vs Q E hr h => ?_)
  · obtain ⟨a, ns, b, rfl, _⟩ := h
    rfl
  · obtain ⟨a, ns, b, rfl, h1, h2, hn, q⟩ := h
    refine ⟨_, (pss_cons (ps_if (pt_val (pe_callB call_isi (by rfl) T.n_isinstance (by decide +kernel) (pa_cons (pv 0) (pa_cons (pe_bltn (v := .ty "list") (by rfl) T.n_list (by decide +kernel) rfl) pa_nil)))) (pss_one (ps_ret (pe_lc (own := [("item", 1)]) (g := gName 1) (tt := tYes) rfl sc__law_copy.nd (pi_list (pv 0)) (blkOk_by (own := [("item", 1)]) (N := N__law_copy) (sc := defScope s__law_copy) (by decide +kernel)) (fun _ _ _ _ _ => (pg_name (i := 1) sc__law_copy.nd rfl (by first | exact Or.inl rfl | exact Or.inr rfl))) (fun _ _ _ _ _ => pts_nil) (fun _ _ _ _ _ => (pe_call G__law_copy (hr.mono (by first | decide | omega)) (by rfl) T.d__law_copy.g T.d__law_copy.F.kp T.d__law_copy.b .nil Vb.pass5 (pa_cons (pv 1) pa_nil)))))) pss_nil)
      (pss_cons (ps_if (pt_val (pe_callB call_isi (by rfl) T.n_isinstance (by decide +kernel) (pa_cons (pv 0) (pa_cons (pe_bltn (v := .ty "tuple") (by rfl) T.n_tuple (by decide +kernel) rfl) pa_nil)))) (pss_one (ps_ret (pe_callTy Vb.call_tuple (by rfl) T.n_tuple (by decide +kernel) (pa_cons (pe_lc (own := [("item", 1)]) (g := gName 1) (tt := tYes) rfl sc__law_copy.nd (pi_tup (pv 0)) (blkOk_by (own := [("item", 1)]) (N := N__law_copy) (sc := defScope s__law_copy) (by decide +kernel)) (fun _ _ _ _ _ => (pg_name (i := 1) sc__law_copy.nd rfl (by first | exact Or.inl rfl | exact Or.inr rfl))) (fun _ _ _ _ _ => pts_nil) (fun _ _ _ _ _ => (pe_call G__law_copy (hr.mono (by first | decide | omega)) (by rfl) T.d__law_copy.g T.d__law_copy.F.kp T.d__law_copy.b .nil Vb.pass5 (pa_cons (pv 1) pa_nil)))) pa_nil)))) pss_nil)
      (pss_one (ps_ret (pv 0))))), ?_⟩
    (change (_ : L2.TS) _ ([some (.ref a), none] : L2.St) _); try dsimp only [L2.cxOf, L2H.cxH]
    have lv : (ns.map V.int).length = ns.length := List.length_map ..
    cases b
    rotate_left
    · have hl := h1 rfl
      have hd := Vb.dp_ints hl
      walk_at "rd"
      intro D hD
      refine Vb.lcw_list (xs := ns.map V.int) (fun i H' => Same H H' ∧ H' D = some (.lst ((ns.take i).map V.int))) ⟨Vb.same_new hD, upd_same⟩ (fun x => rfl) (fun i H' _ p => p.1.seq hl) ?_ ?_
      · rintro i x H' hi ⟨e, h⟩
        obtain ⟨z, hz, rfl⟩ := Vb.getV' hi
        have hi' : i < ns.length := (List.getElem?_eq_some_iff.mp hz).1
        walk_at "rd"
        refine ⟨.int z, .int z, [], rfl, Vb.Trk.nil, .int z, trivial, fun v' H2 e2 hv => ?_⟩
        cases hv
        refine ⟨_, e2 _ _ h, Vb.size_lt (by rw [List.length_map, List.length_take]; omega), Vb.same_mut (e.trans e2) hD, ?_⟩
        rw [upd_same, List.take_add_one, hz, List.map_append]
        rfl
      · rintro H' ⟨e, h⟩
        rw [lv, List.take_length] at h
        exact q D H' e hD (fun _ => h) (fun z => by cases z)
    · have hl := h2 rfl
      have hd : Dp K H (.ref a) (.tuple (ns.map PyData.int)) := .tup hl (Vb.dpa_ints ns)
      walk_at "rd"
      intro D hD
      refine Vb.lcw_tup (xs := ns.map V.int) (fun i H' => Same H H' ∧ H' D = some (.lst ((ns.take i).map V.int))) ⟨Vb.same_new hD, upd_same⟩ (fun x => rfl) (fun i H' _ p => Vb.same_sqt p.1 hl) ?_ ?_
      · rintro i x H' hi ⟨e, h⟩
        obtain ⟨z, hz, rfl⟩ := Vb.getV' hi
        have hi' : i < ns.length := (List.getElem?_eq_some_iff.mp hz).1
        walk_at "rd"
        refine ⟨.int z, .int z, [], rfl, Vb.Trk.nil, .int z, trivial, fun v' H2 e2 hv => ?_⟩
        cases hv
        refine ⟨_, e2 _ _ h, Vb.size_lt (by rw [List.length_map, List.length_take]; omega), Vb.same_mut (e.trans e2) hD, ?_⟩
        rw [upd_same, List.take_add_one, hz, List.map_append]
        rfl
      · rintro H' ⟨e, h⟩
        rw [lv, List.take_length] at h
        walk_at "rd"
        refine Vb.r_tupL (Vb.sq_of h) fun p hp => ?_
        exact q p _ (e.trans (Vb.same_new hp)) (e.free hp) (fun z => by cases z) (fun _ => upd_same)
end
end K
namespace K
open PySem PySem.Spec PyProof.Rows L2
abbrev N__law_spoil_list : List Str := ["row", "item"]
theorem sc__law_spoil_list : FnScope N__law_spoil_list ["row"] (defScope s__law_spoil_list) := ⟨rfl, rfl, rfl, by decide +kernel, rfl, by decide +kernel, by decide +kernel⟩
section
variable {P : Program} {w : World} {K : PySem.W.Frag} {mg : Str → Option Value} {base : Heap}
/-- a list of ints is turned about, and None put behind; a tuple is left alone -/
def sp_spoil (K : PySem.W.Frag) : Sp := fun vs H Q _ => ∃ (a : Addr) (ns : List Int), vs = [.ref a] ∧ ns.length ≤ 1000000 ∧ ((H a = some (.lst (ns.map V.int)) ∧ ∀ us, Q .non (upd (upd H a (.lst (ns.map V.int).reverse)) a (.lst us)) ∨ us ≠ (ns.map V.int).reverse ++ [.non]) ∨ (SqT K H a (ns.map V.int) ∧ Q .non H))
theorem ok_spoil (T : Txt K mg) : FnOk P w K mg base (L2N.CX P w) 1 T.f__law_spoil_list T.fd__law_spoil_list ["row"] (sp_spoil K) := by
  refine Vb.okN T.d__law_spoil_list.F sc__law_spoil_list (fun vs H Q E h => ?_) (fun cdv A outer s H vs Q E hr h => ?_)
  · obtain ⟨a, b, rfl, _⟩ := h
    rfl
  · obtain ⟨a, ns, rfl, hl, h⟩ := h
    refine ⟨_, (pss_one (ps_if (pt_val (pe_callB call_isi (by rfl) T.n_isinstance (by decide +kernel) (pa_cons (pv 0) (pa_cons (pe_bltn (v := .ty "list") (by rfl) T.n_list (by decide +kernel) rfl) pa_nil)))) (pss_cons (ps_for (L2.passes_of rfl) rfl (pi_list (pv 0)) (pg_name (i := 1) sc__law_spoil_list.nd rfl (by first | exact Or.inl rfl | exact Or.inr rfl))
        (pss_one (ps_if (pt_val (pe_callB call_isi (by rfl) T.n_isinstance (by decide +kernel) (pa_cons (pv 1) (pa_cons (pe_bltn (v := .ty "list") (by rfl) T.n_list (by decide +kernel) rfl) pa_nil)))) (pss_one (ps_expr (pe_bm PySem.F.plainAttrs_list PySem.F.slot_list_append PySem.F.type_list_append mt_append (pv 1) (pa_cons pe_int pa_nil)))) pss_nil)))
      (pss_cons (ps_expr (pe_bm0 PySem.F.plainAttrs_list PySem.F.slot_list_reverse PySem.F.type_list_reverse mt_reverse (pv 0)))
      (pss_one (ps_expr (pe_bm PySem.F.plainAttrs_list PySem.F.slot_list_append PySem.F.type_list_append mt_append (pv 0) (pa_cons pe_non pa_nil)))))) pss_nil)), ?_⟩
    (change (_ : L2.TS) _ ([some (.ref a), none] : L2.St) _); try dsimp only [L2.cxOf, L2H.cxH]
    rcases h with ⟨ha, q⟩ | ⟨ha, q⟩
    · have hd : Dp K H (.ref a) (.list (ns.map PyData.int)) := Vb.dp_ints (Vb.sq_of ha)
      walk_at "rd"
      refine Vb.lp_list (xs := ns.map V.int) (fun i σ H' => H' = H ∧ ∃ y, σ = [some (.ref a), y]) ⟨rfl, none, rfl⟩ (fun i σ H' _ c => by rw [c.1]; exact Vb.sq_of ha) ?_ ?_
      · rintro i x σ H' hi ⟨rfl, y, rfl⟩
        obtain ⟨z, _, rfl⟩ := Vb.getV' hi
        have hz : Dp K H' (.int z) (.int z) := .int z
        walk_at "rd"
        exact ⟨rfl, _, rfl⟩
      · rintro σ H' ⟨rfl, y, rfl⟩
        walk_at "rd"
        refine Vb.r_app (upd_same) (Vb.size_lt (by rw [List.length_reverse, List.length_map]; omega)) ?_
        exact (q _).resolve_right fun h => h rfl
    · have hd : Dp K H (.ref a) (.tuple (ns.map PyData.int)) := .tup ha (Vb.dpa_ints ns)
      walk_at "rd"
      exact q
end
end K
namespace K
open PySem PySem.Spec PyProof.Rows L2
section
/-- a list of numbers of the field that is filled from the store -/
structure NmS (p : Int) (st D : Addr) (k : Nat) (H H' : Hp) (ns : List Int) : Prop where
  s0 : Vb.StoreAt H st
  n0 : H D = none
  f : Vb.Fr st H H'
  S : Vb.StoreAt H' st
  h : H' D = some (.lst (ns.map V.int))
  c : ns.length = k
  a : ∀ n ∈ ns, 0 ≤ n ∧ n < p
theorem NmS.ne {p : Int} {st D : Addr} {k : Nat} {H H' : Hp} {ns : List Int} (v : NmS p st D k H H' ns) : D ≠ st := v.s0.ne v.n0
theorem NmS.fr {p : Int} {st D : Addr} {k : Nat} {H H' H2 : Hp} {ns : List Int} (v : NmS p st D k H H' ns) (f : Vb.Fr st H' H2) (s : Vb.StoreAt H2 st) : NmS p st D k H H2 ns := ⟨v.s0, v.n0, v.f.trans f, s, f.k _ _ v.ne v.h, v.c, v.a⟩
theorem NmS.app {p x : Int} {st D : Addr} {k : Nat} {H H' : Hp} {ns : List Int} (v : NmS p st D k H H' ns) (h : 0 ≤ x ∧ x < p) : NmS p st D (k + 1) H (upd H' D (.lst (ns.map V.int ++ [.int x]))) (ns ++ [x]) :=
  ⟨v.s0, v.n0, v.f.mut v.n0, v.s0.mut v.n0 v.f v.S, by rw [upd_same]; simp, by rw [List.length_append, v.c]; rfl, fun u m => by
    rcases List.mem_append.mp m with m | m
    · exact v.a u m
    · rw [List.mem_singleton.mp m]
      exact h⟩
theorem NmS.nil {p : Int} {st D : Addr} {H : Hp} (s : Vb.StoreAt H st) (h : H D = none) : NmS p st D 0 H (upd H D (.lst [])) [] := ⟨s, h, (Vb.Fr.refl _ _).mut h, s.mut h (Vb.Fr.refl _ _) s, upd_same, rfl, fun c m => by cases m⟩
theorem rep_flat (k : Nat) (x : Int) : (List.replicate k [V.int x]).flatten = (List.replicate k x).map V.int := by simp
theorem fr_none {H H' : Hp} {l st : Addr} (f : Vb.Fr st H H') (n : l ≠ st) (h : H' l = none) : H l = none := by
  cases e : H l with
  | none => rfl
  | some o => rw [f.k _ _ n e] at h; cases h
end
end K
namespace K
open PySem PySem.Spec PyProof.Rows L2
abbrev N__law_integer : List Str := ["actual"]
theorem sc__law_integer : FnScope N__law_integer ["actual"] (defScope s__law_integer) := ⟨rfl, rfl, rfl, by decide +kernel, rfl, by decide +kernel, by decide +kernel⟩
section
variable {P : Program} {w : World} {K : PySem.W.Frag} {mg : Str → Option Value} {base : Heap}
def sp_integer : Sp := fun vs H Q _ => ∃ n : Int, vs = [.int n] ∧ Q (.bl true) H
theorem ok_integer (T : Txt K mg) : FnOk P w K mg base (L2N.CX P w) 1 T.f__law_integer T.fd__law_integer ["actual"] sp_integer := by
  refine Vb.okN T.d__law_integer.F sc__law_integer (fun vs H Q E h => ?_) (fun cdv A outer s H vs Q E hr h => ?_)
  · obtain ⟨n, rfl, _⟩ := h
    rfl
  · obtain ⟨n, rfl, q⟩ := h
    refine ⟨_, (pss_one (ps_ret (pe_and (pe_callB call_isi (by rfl) T.n_isinstance (by decide +kernel) (pa_cons (pv 0) (pa_cons (pe_bltn (v := .ty "int") (by rfl) T.n_int (by decide +kernel) rfl) pa_nil))) (pe_one (pe_not (pe_callB call_isi (by rfl) T.n_isinstance (by decide +kernel) (pa_cons (pv 0) (pa_cons (pe_bltn (v := .ty "bool") (by rfl) T.n_bool (by decide +kernel) rfl) pa_nil)))))))), ?_⟩
    (change (_ : L2.TS) _ ([some (.int n)] : L2.St) _); try dsimp only [L2.cxOf, L2H.cxH]
    have hd : Dp K H (.int n) (.int n) := .int n
    walk_at "rd"
    exact q
end
end K
namespace K
open PySem PySem.Spec PyProof.Rows L2
section
/-- the product of a row -/
def pr (ns : List Int) : Int := ns.foldl (fun a b => a * b) 1
theorem pr_app (ns : List Int) (n : Int) : pr (ns ++ [n]) = pr ns * n := by
  unfold pr
  rw [List.foldl_append]
  rfl
theorem pr_take {ns : List Int} {i : Nat} {n : Int} (h : ns[i]? = some n) : pr (ns.take (i + 1)) = pr (ns.take i) * n := by
  rw [List.take_add_one, h]
  exact pr_app _ _
theorem pr_perm {ns ms : List Int} (h : ns.Perm ms) : pr ns = pr ms := h.foldl_eq' (fun x _ y _ z => by show z * x * y = z * y * x; rw [Int.mul_assoc, Int.mul_comm x y, Int.mul_assoc]) 1
theorem pr_pos : ∀ {ns : List Int}, (∀ n ∈ ns, 2 ≤ n) → 1 ≤ pr ns := fun {ns} h => by
  have : ∀ (ms : List Int) (a : Int), 1 ≤ a → (∀ n ∈ ms, 2 ≤ n) → 1 ≤ ms.foldl (fun a b => a * b) a := fun ms => by
    induction ms with
    | nil => exact fun a ha _ => ha
    | cons m ms ih =>
      intro a ha hm
      have h2 := hm m (List.mem_cons_self ..)
      have : a * 1 ≤ a * m := Int.mul_le_mul_of_nonneg_left (by omega) (by omega)
      exact ih (a * m) (by omega) fun n hn => hm n (List.mem_cons_of_mem _ hn)
  exact this ns 1 (by decide) h
end
end K
namespace K
open PySem PySem.Spec PyProof.Rows L2

abbrev N_check_primes : List Str := ["primes", "prime"]
theorem sc_check_primes : FnScope N_check_primes ["primes"] (defScope s_check_primes) := ⟨rfl, rfl, rfl, by decide +kernel, rfl, by decide +kernel, by decide +kernel⟩
section
variable {P : Program} {w : World} {K : PySem.W.Frag} {mg : Str → Option Value} {base : Heap}
theorem fields_ints {K : PySem.W.Frag} {H : Hp} : ∀ {ds : List PyData} {xs : List V}, DpAll K H xs ds → (∀ d ∈ ds, field d = true) → ∃ ns : List Int, xs = ns.map V.int ∧ ds = ns.map PyData.int ∧ ∀ n ∈ ns, Vb.Prm n ∧ n ≤ 101
  | [], _, h, _ => by cases h; exact ⟨[], rfl, rfl, fun n m => by cases m⟩
  | d :: ds, _, h, hf => by
    cases h with
    | @cons x xs _ _ h1 h2 =>
      obtain ⟨ns, e1, e2, e3⟩ := fields_ints h2 fun d m => hf d (List.mem_cons_of_mem _ m)
      have f := hf d (List.mem_cons_self ..)
      cases d with
      | int n =>
        cases h1
        have f' : (decide (n ≤ 101) && Vb.isP n) = true := f
        rw [Bool.and_eq_true] at f'
        refine ⟨n :: ns, by rw [e1]; rfl, by rw [e2]; rfl, fun m hm => ?_⟩
        rcases List.mem_cons.mp hm with rfl | hm
        · exact ⟨(Vb.isP_iff m).mp f'.2, of_decide_eq_true f'.1⟩
        · exact e3 m hm
      | _ => cases f
def sp_checkprimes (K : PySem.W.Frag) (NP R L : Addr) : Sp := fun vs H Q E => ∃ (l : Addr) (xs : List V) (ds : List PyData), vs = [.ref l] ∧ Vb.SqA K H l xs ∧ DpAll K H xs ds ∧
  (8 < xs.length → E (.ref L) none H) ∧
  (xs.length ≤ 8 → ∀ (i : Nat) (v : V) (d : PyData), xs[i]? = some v → ds[i]? = some d → (∀ (j : Nat) e, j < i → ds[j]? = some e → field e = true) → field d = false → ∀ dd : Addr, H dd = none → E (.ref NP) (some dd) (upd H dd (.xd [("value", v)]))) ∧
  (xs.length ≤ 8 → ∀ ns : List Int, xs = ns.map V.int → ds = ns.map PyData.int → (∀ n ∈ ns, Vb.Prm n ∧ n ≤ 101) → (¬ ns.Nodup → E (.ref R) none H) ∧ (ns.Nodup → Q .non H))
theorem ok_checkprimes (T : Txt K mg) : FnOk P w K mg base (L2N.CX P w) 4 T.f_check_primes T.fd_check_primes ["primes"] (sp_checkprimes K T.C_NotPrime T.C_Repeated T.C_TooLarge) := by
  have G_check_at_most := ok_atmost (P := P) (w := w) (base := base) T
  have G_check_prime := ok_check (P := P) (w := w) (base := base) T
  refine Vb.okN T.d_check_primes.F sc_check_primes (fun vs H Q E h => ?_) (fun cdv A outer s H vs Q E hr h => ?_)
  · obtain ⟨l, xs, ds, rfl, _⟩ := h
    rfl
  · obtain ⟨l, xs, ds, rfl, hl, hd, qL, qN, qG⟩ := h
    refine ⟨_, (pss_cons (ps_expr (pe_callS G_check_at_most (hr.mono (by first | decide | omega)) (by rfl) T.d_check_at_most.g T.d_check_at_most.F.kp T.d_check_at_most.b (fun σ => L2N.passAt (L2N.takes_of rfl rfl rfl rfl) σ) (pa_cons (pv 0) (pa_cons (pe_glob (v := .int 8) (by rfl) T.c_MAX_PRIMES ⟨_, rfl⟩) pa_nil))))
      (pss_cons (ps_for (L2.passes_of rfl) rfl (Vb.pi_seq (pv 0)) (pg_name (i := 1) sc_check_primes.nd rfl (by first | exact Or.inl rfl | exact Or.inr rfl))
        (pss_one (ps_expr (pe_callS G_check_prime (hr.mono (by first | decide | omega)) (by rfl) T.d_check_prime.g T.d_check_prime.F.kp T.d_check_prime.b (fun σ => L2N.passAt (L2N.takes_of rfl rfl rfl rfl) σ) (pa_cons (pv 1) pa_nil)))))
      (pss_one (ps_if (pt_cmpR op_lt (Vb.pe_lenSetA (by rfl) T.n_len (by rfl) T.n_set (pv 0)) (pe_callB Vb.call_len (by rfl) T.n_len (by decide +kernel) (pa_cons (pv 0) pa_nil)) (nomark _)) (pss_one (L2N.ps_raise rfl (L2N.takes_of rfl rfl rfl rfl) (Vb.pmk0 T.x_Repeated rfl))) pss_nil)))), ?_⟩
    (change (_ : L2.TS) _ ([some (.ref l), none] : L2.St) _); try dsimp only [L2.cxOf, L2H.cxH]
    walk_at "rd"
    refine ⟨l, xs, 8, rfl, hl, fun h8 => ?_, fun h8 => qL (by omega)⟩
    have h8' : xs.length ≤ 8 := by omega
    walk_at "rd"
    refine Vb.lp_seq (xs := xs) (fun i σ H' => H' = H ∧ (∀ (j : Nat) e, j < i → ds[j]? = some e → field e = true) ∧ ∃ y, σ = [some (.ref l), y]) ⟨rfl, fun j e h => by omega, none, rfl⟩ hl (fun i σ' H' _ c => by rw [c.1]; exact Same.refl _) ?_ ?_
    · rintro i x σ H' hi ⟨rfl, hk, y, rfl⟩
      obtain ⟨d, hd1, hd2⟩ := Vb.dpa_get hd hi
      walk_at "rd"
      refine ⟨x, d, rfl, hd2, fun hf => ?_, fun hf => qN h8' i x d hi hd1 hk hf⟩
      walk_at "rd"
      refine ⟨rfl, fun j e h g => ?_, _, rfl⟩
      by_cases z : j < i
      · exact hk j e z g
      · rw [show j = i by omega, hd1] at g
        cases g
        exact hf
    · rintro σ H' ⟨rfl, hk, y, rfl⟩
      obtain ⟨ns, e1, e2, e3⟩ := fields_ints hd fun d m => by
        obtain ⟨j, hj⟩ := List.getElem?_of_mem m
        exact hk j d (by rw [Vb.dpa_len hd]; exact (List.getElem?_eq_some_iff.mp hj).1) hj
      obtain ⟨q1, q2⟩ := qG h8' ns e1 e2 e3
      subst e1
      have ll : (ns.map V.int).length = ns.length := List.length_map ..
      walk_at "rd"
      refine Vb.r_lenSetA ?_
      walk_at "rd"
      refine ⟨l, ns, rfl, hl, by omega, fun c c1 c2 => ?_⟩
      walk_at "rd"
      rw [ll]
      refine Vb.r_ite (fun z => ?_) (fun z => ?_)
      · walk_at "rd"
        exact q1 fun n => by have := c1 n; omega
      · walk_at "rd"
        exact q2 (Classical.byContradiction fun n => z (by have := c2 n; omega))
end
end K
namespace K
open PySem PySem.Spec PyProof.Rows L2

abbrev N__law_product : List Str := ["row", "product", "number"]
theorem sc__law_product : FnScope N__law_product ["row"] (defScope s__law_product) := ⟨rfl, rfl, rfl, by decide +kernel, rfl, by decide +kernel, by decide +kernel⟩
section
variable {P : Program} {w : World} {K : PySem.W.Frag} {mg : Str → Option Value} {base : Heap}
def sp_lawproduct (K : PySem.W.Frag) : Sp := fun vs H Q _ => ∃ (l : Addr) (ns : List Int), vs = [.ref l] ∧ SqL K H l (ns.map V.int) ∧ (∀ n ∈ ns, 0 ≤ n ∧ n < 1000) ∧ Q (.int (pr ns)) H
theorem ok_lawproduct (T : Txt K mg) : FnOk P w K mg base (L2N.CX P w) 1 T.f__law_product T.fd__law_product ["row"] (sp_lawproduct K) := by
  refine Vb.okN T.d__law_product.F sc__law_product (fun vs H Q E h => ?_) (fun cdv A outer s H vs Q E hr h => ?_)
  · obtain ⟨l, ns, rfl, _⟩ := h
    rfl
  · obtain ⟨l, ns, rfl, hl, hb, q⟩ := h
    refine ⟨_, (pss_cons (ps_set (i := 1) sc__law_product.nd rfl (by first | exact Or.inl rfl | exact Or.inr rfl) pe_int)
      (pss_cons (ps_for (L2.passes_of rfl) rfl (pi_list (pv 0)) (pg_name (i := 2) sc__law_product.nd rfl (by first | exact Or.inl rfl | exact Or.inr rfl))
        (pss_one (ps_set (i := 1) sc__law_product.nd rfl (by first | exact Or.inl rfl | exact Or.inr rfl) (pe_op op_mul (pv 1) (pv 2)))))
      (pss_one (ps_ret (pv 1))))), ?_⟩
    (change (_ : L2.TS) _ ([some (.ref l), none, none] : L2.St) _); try dsimp only [L2.cxOf, L2H.cxH]
    walk_at "rd"
    refine Vb.lp_list (xs := ns.map V.int) (fun i σ H' => H' = H ∧ ∃ y, σ = [some (.ref l), some (.int (pr (ns.take i))), y]) ⟨rfl, none, rfl⟩ (fun i σ' H' _ c => by rw [c.1]; exact hl) ?_ ?_
    · rintro i x σ H' hi ⟨rfl, y, rfl⟩
      obtain ⟨n, hn, rfl⟩ := Vb.getV' hi
      have bn := hb n (List.mem_of_getElem? hn)
      walk_at "rd"
      rw [← pr_take hn]
      exact ⟨rfl, _, rfl⟩
    rintro σ H' ⟨rfl, y, rfl⟩
    rw [List.length_map, List.take_length]
    walk_at "rd"
    exact q
end
end K
namespace K
open PySem PySem.Spec PyProof.Rows L2


abbrev N__law_prime_row : List Str := ["store", "many", "left", "primes", "k", "size"]
theorem sc__law_prime_row : FnScope N__law_prime_row ["store", "many"] (defScope s__law_prime_row) := ⟨rfl, rfl, rfl, by decide +kernel, rfl, by decide +kernel, by decide +kernel⟩
section
variable {P : Program} {w : World} {K : PySem.W.Frag} {mg : Str → Option Value} {base : Heap}
theorem erase_map (xs : List Int) (j : Nat) : (xs.map V.int).eraseIdx j = (xs.eraseIdx j).map V.int := by
  rw [List.eraseIdx_eq_take_drop_succ, List.eraseIdx_eq_take_drop_succ, List.map_append, List.map_take, List.map_drop]
theorem erase_perm {xs : List Int} {j : Nat} (h : j < xs.length) : (xs[j] :: xs.eraseIdx j).Perm xs := by
  rw [List.eraseIdx_eq_take_drop_succ]
  have e : xs.take j ++ xs[j] :: xs.drop (j + 1) = xs := by rw [List.getElem_cons_drop h, List.take_append_drop]
  exact List.perm_middle.symm.trans (List.Perm.of_eq e)
theorem r_popAt {xs : List V} {l : Addr} {j : Nat} {v : V} {H : Hp} {Q : VK} (hj : j < xs.length) (hb : xs.length ≤ 1000000) (h : H l = some (.lst xs)) (hv : xs[j]? = some v) (q : Q v (upd H l (.lst (xs.eraseIdx j)))) : rPopAt (.ref l) [.int (j : Nat)] H Q := by
  refine ⟨l, xs, j, j, v, rfl, rfl, h, by omega, by omega, ?_, hv, q⟩
  exact (ixN_seq (Vb.ix_nat j rfl hj)).1
/-- primes, each once -/
structure PrRow (ns : List Int) : Prop where
  p : ∀ n ∈ ns, Vb.Prm n ∧ n ≤ 101
  nd : ns.Nodup
theorem PrRow.bd {ns : List Int} (r : PrRow ns) : ∀ n ∈ ns, 0 ≤ n ∧ n < 1000 := fun n m => ⟨by have := (r.p n m).1.1; omega, by have := (r.p n m).2; omega⟩
/-- different primes, a new row -/
def sp_primerow : Sp := fun vs H Q _ => ∃ (st : Addr) (m : Int), vs = [.ref st, .int m] ∧ Vb.StoreAt H st ∧ (0 ≤ m ∧ m ≤ 1000) ∧ ∀ (l : Addr) (H' : Hp) (ns : List Int), l ≠ st → H l = none → H' l = some (.lst (ns.map V.int)) → (ns.length : Int) = min 8 m → PrRow ns → Vb.Fr st H H' → Vb.StoreAt H' st → Q (.ref l) H'
theorem ok_primerow (T : Txt K mg) : FnOk P w K mg base (L2N.CX P w) 3 T.f__law_prime_row T.fd__law_prime_row ["store", "many"] sp_primerow := by
  have G__law_take := ok_take (P := P) (w := w) (base := base) T
  have G__law_primes := ok_primes (P := P) (w := w) (base := base) T
  refine Vb.okN T.d__law_prime_row.F sc__law_prime_row (fun vs H Q E h => ?_) (fun cdv A outer s H vs Q E hr h => ?_)
  · obtain ⟨st, m, rfl, _⟩ := h
    rfl
  · obtain ⟨st, m, rfl, hS, hm, q⟩ := h
    have uc : (Vb.upto 101).length = 26 := by decide +kernel
    refine ⟨_, (pss_cons (ps_set (i := 2) sc__law_prime_row.nd rfl (by first | exact Or.inl rfl | exact Or.inr rfl) (pe_callS G__law_primes (hr.mono (by first | decide | omega)) (by rfl) T.d__law_primes.g T.d__law_primes.F.kp T.d__law_primes.b (fun σ => L2N.passAt (L2N.takes_of rfl rfl rfl rfl) σ) (pa_cons pe_int pa_nil)))
      (pss_cons (ps_set (i := 3) sc__law_prime_row.nd rfl (by first | exact Or.inl rfl | exact Or.inr rfl) (pe_lst pa_nil))
      (pss_cons (ps_for (L2.passes_of rfl) rfl (pi_range1 rfl T.n_range (pa_cons (pe_callB (Vb.call_min2 rfl) (by rfl) T.n_min (by decide +kernel) (pa_cons pe_int (pa_cons (pv 1) pa_nil))) pa_nil)) (pg_name (i := 4) sc__law_prime_row.nd rfl (by first | exact Or.inl rfl | exact Or.inr rfl))
        (pss_cons (ps_set (i := 5) sc__law_prime_row.nd rfl (by first | exact Or.inl rfl | exact Or.inr rfl) (pe_callB Vb.call_len (by rfl) T.n_len (by decide +kernel) (pa_cons (pv 2) pa_nil)))
      (Evl.pss_cut (ps_if (pt_cmpR op_gt (pe_callS G__law_take (hr.mono (by first | decide | omega)) (by rfl) T.d__law_take.g T.d__law_take.F.kp T.d__law_take.b (fun σ => L2N.passAt (L2N.takes_of rfl rfl rfl rfl) σ) (pa_cons (pv 0) (pa_cons pe_int pa_nil))) pe_int (nomark _)) (pss_one (ps_set (i := 5) sc__law_prime_row.nd rfl (by first | exact Or.inl rfl | exact Or.inr rfl) (pe_callB (Vb.call_min2 rfl) (by rfl) T.n_min (by decide +kernel) (pa_cons pe_int (pa_cons (pv 5) pa_nil))))) pss_nil)
      (pss_one (ps_expr (pe_bm PySem.F.plainAttrs_list PySem.F.slot_list_append PySem.F.type_list_append mt_append (pv 3) (pa_cons (pe_bm PySem.F.plainAttrs_list PySem.F.slot_list_pop PySem.F.type_list_pop mt_popAt (pv 2) (pa_cons (pe_callS G__law_take (hr.mono (by first | decide | omega)) (by rfl) T.d__law_take.g T.d__law_take.F.kp T.d__law_take.b (fun σ => L2N.passAt (L2N.takes_of rfl rfl rfl rfl) σ) (pa_cons (pv 0) (pa_cons (pv 5) pa_nil))) pa_nil)) pa_nil)))))))
      (pss_one (ps_ret (pv 3)))))), ?_⟩
    (change (_ : L2.TS) _ ([some (.ref st), some (.int m), none, none, none, none] : L2.St) _); try dsimp only [L2.cxOf, L2H.cxH]
    walk_at "rd"
    refine use_primes (by decide) (by decide) fun L H1 nL eL hL => ?_
    have mL := hS.ne nL
    have S1 := hS.same eL
    walk_at "rd"
    refine ⟨Vb.size_ok (by show 0 ≤ 16777216; decide), fun N nN => ?_⟩
    have nNH := eL.free nN
    have eN := eL.trans (Vb.same_new (o := .lst []) nN)
    have hN : (upd H1 N (.lst [])) N = some (.lst []) := upd_same
    have hL2 := Vb.h_new (o := .lst []) nN hL
    have mN := S1.ne nN
    have neNL : L ≠ N := ne_of_none hL nN
    have S2 := S1.same (Vb.same_new (o := .lst []) nN)
    generalize upd H1 N _ = H2 at eN hN hL2 S2 ⊢
    clear hL S1 eL
    walk_at "rd"
    obtain ⟨k, hk, k1⟩ : ∃ k : Nat, (if m < 8 then m else 8) = (k : Int) ∧ (k : Int) = min 8 m := ⟨(if m < 8 then m else 8).toNat, by split <;> omega, by split <;> omega⟩
    rw [hk]
    walk_at "rd"
    rw [Int.toNat_natCast]
    refine Vb.lp_range (fun i σ H' => ∃ (us ls : List Int) (y z : Option V), Vb.Fr st H H' ∧ Vb.StoreAt H' st ∧ H' L = some (.lst (ls.map V.int)) ∧ H' N = some (.lst (us.map V.int)) ∧ us.length = i ∧ (us ++ ls).Perm (Vb.upto 101) ∧ σ = [some (.ref st), some (.int m), some (.ref L), some (.ref N), y, z])
      ⟨[], Vb.upto 101, none, none, Vb.Fr.of eN, S2, hL2, hN, rfl, List.Perm.refl _, rfl⟩ ?_ ?_
    · rintro i σ H' hi ⟨us, ls, y, z, F, S, hL, hN, hu, pm, rfl⟩
      have tl := pm.length_eq
      rw [List.length_append, uc] at tl
      have lx : (ls.map V.int).length = ls.length := List.length_map ..
      walk_at "rd"
      refine Vb.r_cut (fun σ' H3 => ∃ sz : Int, (1 ≤ sz ∧ sz ≤ ls.length) ∧ Vb.Fr st H' H3 ∧ Vb.StoreAt H3 st ∧ σ' = [some (.ref st), some (.int m), some (.ref L), some (.ref N), some (.int (0 + (i : Int))), some (.int sz)]) ?_ ?_
      · walk_at "rd"
        refine use_take S (by decide) fun t H3 t1 t2 _ f3 S3 => ?_
        walk_at "rd"
        refine Vb.r_ite (fun c => ?_) (fun c => ?_)
        · walk_at "rd"
          rw [lx]
          exact ⟨_, by split <;> omega, f3, S3, rfl⟩
        · rw [lx]
          exact ⟨_, by omega, f3, S3, rfl⟩
      rintro σ' H3 ⟨sz, hsz, f3, S3, rfl⟩
      walk_at "rd"
      refine use_take S3 (by omega) fun t H4 t1 t2 t3 f4 S4 => ?_
      have hL3 := (f3.trans f4).k _ _ mL hL
      have hN3 := (f3.trans f4).k _ _ mN hN
      have F4 := F.trans (f3.trans f4)
      obtain ⟨j, rfl⟩ : ∃ j : Nat, t = (j : Int) := ⟨t.toNat, by omega⟩
      have hj : j < ls.length := by
        by_cases c : 1 < sz
        · have := t2 c; omega
        · have := t3 (by omega); omega
      have hv : (ls.map V.int)[j]? = some (.int ls[j]) := Vb.getV hj
      walk_at "rd"
      refine r_popAt (by rw [lx]; exact hj) (by rw [lx]; omega) hL3 hv ?_
      rw [erase_map ls j]
      have S5 := hS.mut (o := .lst ((ls.eraseIdx j).map V.int)) nL F4 S4
      have F5 := F4.mut (o := .lst ((ls.eraseIdx j).map V.int)) nL
      have hL4 : (upd H4 L (.lst ((ls.eraseIdx j).map V.int))) L = some (.lst ((ls.eraseIdx j).map V.int)) := upd_same
      have hN4 : (upd H4 L (.lst ((ls.eraseIdx j).map V.int))) N = some (.lst (us.map V.int)) := Vb.h_ne (Ne.symm neNL) hN3
      generalize upd H4 L _ = H5 at F5 S5 hL4 hN4 ⊢
      have sz : (us.map V.int).length < sizeLine := Vb.size_lt (by rw [List.length_map]; omega)
      walk_at "rd"
      refine ⟨us ++ [ls[j]], ls.eraseIdx j, _, _, F5.mut nNH, hS.mut nNH F5 S5, Vb.h_ne neNL hL4, by rw [upd_same, List.map_append]; rfl, by rw [List.length_append, hu]; rfl, ?_, rfl⟩
      rw [List.append_assoc]
      exact (List.Perm.append_left us (erase_perm hj)).trans pm
    · rintro σ H' ⟨us, ls, y, z, F, S, hL, hN, hu, pm, rfl⟩
      have nd : (Vb.upto 101).Nodup := (Vb.upto_sorted 101).imp fun h => by omega
      walk_at "rd"
      exact q N H' us mN nNH hN (by omega) ⟨fun n mn => Vb.mem_upto.mp (pm.mem_iff.mp (List.mem_append_left _ mn)), (List.nodup_append.mp (pm.nodup_iff.mpr nd)).1⟩ F S
end
end K
namespace K
open PySem PySem.Spec PyProof.Rows L2

abbrev N__law_bad_primes : List Str := ["store", "way", "row", "at", "value", "k"]
theorem sc__law_bad_primes : FnScope N__law_bad_primes ["store"] (defScope s__law_bad_primes) := ⟨rfl, rfl, rfl, by decide +kernel, rfl, by decide +kernel, by decide +kernel⟩
section
variable {P : Program} {w : World} {K : PySem.W.Frag} {mg : Str → Option Value} {base : Heap}
theorem offs_less {Z Z' : List Addr} {H : Hp} (h : ∀ z ∈ Z', z ∈ Z) : Same (Vb.offs Z H) (Vb.offs Z' H) := fun b _ g => Vb.offs_of (fun m => (Vb.offs_some g).1 (h b m)) (Vb.offs_some g).2
theorem offs_less1 {a b : Addr} {H : Hp} : Same (Vb.offs [a, b] H) (Vb.offs [a] H) := offs_less fun z hz => by cases List.mem_singleton.1 hz; exact List.mem_cons_self ..
theorem offs_updm {Z : List Addr} {H : Hp} {D : Addr} {o : HO} (m : D ∈ Z) : Same (Vb.offs Z H) (Vb.offs Z (upd H D o)) := fun b _ g => Vb.offs_of (Vb.offs_some g).1 (Vb.h_ne (fun z => (Vb.offs_some g).1 (z ▸ m)) (Vb.offs_some g).2)
theorem dpa_off {K : PySem.W.Frag} {Z : List Addr} {H : Hp} {xs : List V} {ds : List PyData} (h : DpAll K (Vb.offs Z H) xs ds) : DpAll K H xs ds := Vb.dpa_same Vb.offs_sub _ _ h
theorem dpa_set {K : PySem.W.Frag} {H : Hp} {v : V} {d : PyData} : ∀ {ds : List PyData} {xs : List V} {i : Nat}, DpAll K H xs ds → Dp K H v d → DpAll K H (xs.set i v) (ds.set i d)
  | [], _, _, h, _ => by cases h; exact .nil
  | e :: ds, _, 0, h, g => by cases h with | cons h1 h2 => exact .cons g h2
  | e :: ds, _, i + 1, h, g => by cases h with | cons h1 h2 => exact .cons h1 (dpa_set h2 g)
/-- a row that is refused, and why -/
structure BadPr (K : PySem.W.Frag) (H : Hp) (xs : List V) (ds : List PyData) (nm : Str) (o : V) (d : PyData) : Prop where
  all : DpAll K H xs ds
  one : Dp K H o d
  ok : Vb.DOk 4 d
  few : xs.length ≤ 20
  why : (nm = "TooLarge" ∧ 8 < xs.length) ∨ (nm = "Repeated" ∧ xs.length ≤ 8 ∧ ∃ ns : List Int, xs = ns.map V.int ∧ ds = ns.map PyData.int ∧ (∀ n ∈ ns, Vb.Prm n ∧ n ≤ 101) ∧ ¬ ns.Nodup) ∨
    (nm = "NotPrime" ∧ xs.length ≤ 8 ∧ field d = false ∧ ∃ i : Nat, xs[i]? = some o ∧ ds[i]? = some d ∧ ∀ (j : Nat) e, j < i → ds[j]? = some e → field e = true)
theorem BadPr.same {K : PySem.W.Frag} {H H' : Hp} {xs : List V} {ds : List PyData} {nm : Str} {o : V} {d : PyData} (b : BadPr K H xs ds nm o d) (e : Same H H') : BadPr K H' xs ds nm o d := ⟨Vb.dpa_same e _ _ b.all, Vb.dp_same e _ _ b.one, b.ok, b.few, b.why⟩
def sp_badprimes (K : PySem.W.Frag) : Sp := fun vs H Q _ => ∃ (st : Addr), vs = [.ref st] ∧ Vb.StoreAt H st ∧ ∀ (t b : Addr) (xs : List V) (ds : List PyData) (nm : Str) (o : V) (d : PyData) (H' : Hp), t ≠ st → b ≠ st → H' t = some (.tup [.ref b, .str nm, o]) → H' b = some (.lst xs) → BadPr K (Vb.offs [st] H') xs ds nm o d → Vb.Fr st H H' → Vb.StoreAt H' st → Q (.ref t) H'
theorem ok_badprimes (T : Txt K mg) : FnOk P w K mg base (L2N.CX P w) 6 T.f__law_bad_primes T.fd__law_bad_primes ["store"] (sp_badprimes K) := by
  have G__law_take := ok_take (P := P) (w := w) (base := base) T
  have G__law_prime_row := ok_primerow (P := P) (w := w) (base := base) T
  have G__law_prime := ok_prime (P := P) (w := w) (base := base) T
  have G__law_pick := ok_pick (P := P) (w := w) (base := base) T
  have G__law_bad_prime := ok_badprime (P := P) (w := w) (base := base) T
  refine Vb.okN T.d__law_bad_primes.F sc__law_bad_primes (fun vs H Q E h => ?_) (fun cdv A outer s H vs Q E hr h => ?_)
  · obtain ⟨st, rfl, _⟩ := h
    rfl
  · obtain ⟨st, rfl, hS, q⟩ := h
    refine ⟨_, (pss_cons (ps_set (i := 1) sc__law_bad_primes.nd rfl (by first | exact Or.inl rfl | exact Or.inr rfl) (pe_callS G__law_take (hr.mono (by first | decide | omega)) (by rfl) T.d__law_take.g T.d__law_take.F.kp T.d__law_take.b (fun σ => L2N.passAt (L2N.takes_of rfl rfl rfl rfl) σ) (pa_cons (pv 0) (pa_cons pe_int pa_nil))))
      (pss_cons (ps_set (i := 2) sc__law_bad_primes.nd rfl (by first | exact Or.inl rfl | exact Or.inr rfl) (pe_callS G__law_prime_row (hr.mono (by first | decide | omega)) (by rfl) T.d__law_prime_row.g T.d__law_prime_row.F.kp T.d__law_prime_row.b (fun σ => L2N.passAt (L2N.takes_of rfl rfl rfl rfl) σ) (pa_cons (pv 0) (pa_cons (pe_op op_add pe_int (pe_callS G__law_take (hr.mono (by first | decide | omega)) (by rfl) T.d__law_take.g T.d__law_take.F.kp T.d__law_take.b (fun σ => L2N.passAt (L2N.takes_of rfl rfl rfl rfl) σ) (pa_cons (pv 0) (pa_cons pe_int pa_nil)))) pa_nil))))
      (pss_cons (ps_if (pt_cmpR op_eq (pv 1) pe_int (nomark _)) (pss_one (ps_ret (pe_tup (pa_cons (pe_op op_cat (pv 2) (pe_lc (own := [("k", 5)]) (g := gName 5) (tt := tYes) rfl sc__law_bad_primes.nd (pi_range1 rfl T.n_range (pa_cons (pe_op op_add (pe_op op_sub pe_int (pe_callB Vb.call_len (by rfl) T.n_len (by decide +kernel) (pa_cons (pv 2) pa_nil))) (pe_callS G__law_take (hr.mono (by first | decide | omega)) (by rfl) T.d__law_take.g T.d__law_take.F.kp T.d__law_take.b (fun σ => L2N.passAt (L2N.takes_of rfl rfl rfl rfl) σ) (pa_cons (pv 0) (pa_cons pe_int pa_nil)))) pa_nil)) (blkOk_by (own := [("k", 5)]) (N := N__law_bad_primes) (sc := defScope s__law_bad_primes) (by decide +kernel)) (fun _ _ _ _ _ => (pg_name (i := 5) sc__law_bad_primes.nd rfl (by first | exact Or.inl rfl | exact Or.inr rfl))) (fun _ _ _ _ _ => pts_nil) (fun _ _ _ _ _ => (pe_call G__law_prime (hr.mono (by first | decide | omega)) (by rfl) T.d__law_prime.g T.d__law_prime.F.kp T.d__law_prime.b .nil Vb.pass5 (pa_cons (pv 0) pa_nil))))) (pa_cons pe_str (pa_cons pe_non pa_nil)))))) pss_nil)
      (pss_cons (ps_expr (pe_bm PySem.F.plainAttrs_list PySem.F.slot_list_insert PySem.F.type_list_insert mt_insert (pv 2) (pa_cons (pe_callS G__law_take (hr.mono (by first | decide | omega)) (by rfl) T.d__law_take.g T.d__law_take.F.kp T.d__law_take.b (fun σ => L2N.passAt (L2N.takes_of rfl rfl rfl rfl) σ) (pa_cons (pv 0) (pa_cons (pe_op op_add (pe_callB Vb.call_len (by rfl) T.n_len (by decide +kernel) (pa_cons (pv 2) pa_nil)) pe_int) pa_nil))) (pa_cons (pe_callS G__law_pick (hr.mono (by first | decide | omega)) (by rfl) T.d__law_pick.g T.d__law_pick.F.kp T.d__law_pick.b (fun σ => L2N.passAt (L2N.takes_of rfl rfl rfl rfl) σ) (pa_cons (pv 0) (pa_cons (pv 2) pa_nil))) pa_nil))))
      (pss_cons (ps_if (pt_cmpR op_eq (pv 1) pe_int (nomark _)) (pss_one (ps_ret (pe_tup (pa_cons (pv 2) (pa_cons pe_str (pa_cons pe_non pa_nil)))))) pss_nil)
      (pss_cons (ps_if (pt_cmpR op_eq (pe_callS G__law_take (hr.mono (by first | decide | omega)) (by rfl) T.d__law_take.g T.d__law_take.F.kp T.d__law_take.b (fun σ => L2N.passAt (L2N.takes_of rfl rfl rfl rfl) σ) (pa_cons (pv 0) (pa_cons pe_int pa_nil))) pe_int (nomark _)) (pss_one (ps_set (i := 2) sc__law_bad_primes.nd rfl (by first | exact Or.inl rfl | exact Or.inr rfl) (pe_callS G__law_prime_row (hr.mono (by first | decide | omega)) (by rfl) T.d__law_prime_row.g T.d__law_prime_row.F.kp T.d__law_prime_row.b (fun σ => L2N.passAt (L2N.takes_of rfl rfl rfl rfl) σ) (pa_cons (pv 0) (pa_cons (pe_op op_add pe_int (pe_callS G__law_take (hr.mono (by first | decide | omega)) (by rfl) T.d__law_take.g T.d__law_take.F.kp T.d__law_take.b (fun σ => L2N.passAt (L2N.takes_of rfl rfl rfl rfl) σ) (pa_cons (pv 0) (pa_cons pe_int pa_nil)))) pa_nil))))) pss_nil)
      (pss_cons (ps_set (i := 3) sc__law_bad_primes.nd rfl (by first | exact Or.inl rfl | exact Or.inr rfl) (pe_callS G__law_take (hr.mono (by first | decide | omega)) (by rfl) T.d__law_take.g T.d__law_take.F.kp T.d__law_take.b (fun σ => L2N.passAt (L2N.takes_of rfl rfl rfl rfl) σ) (pa_cons (pv 0) (pa_cons (pe_callB Vb.call_len (by rfl) T.n_len (by decide +kernel) (pa_cons (pv 2) pa_nil)) pa_nil))))
      (pss_cons (ps_set (i := 4) sc__law_bad_primes.nd rfl (by first | exact Or.inl rfl | exact Or.inr rfl) (pe_callS G__law_bad_prime (hr.mono (by first | decide | omega)) (by rfl) T.d__law_bad_prime.g T.d__law_bad_prime.F.kp T.d__law_bad_prime.b (fun σ => L2N.passAt (L2N.takes_of rfl rfl rfl rfl) σ) (pa_cons (pv 0) pa_nil)))
      (pss_cons (ps_asg (pv 4) (pg_sub (pv 2) (pv 3) set_list))
      (pss_one (ps_ret (pe_tup (pa_cons (pv 2) (pa_cons pe_str (pa_cons (pv 4) pa_nil))))))))))))))), ?_⟩
    (change (_ : L2.TS) _ ([some (.ref st), none, none, none, none, none] : L2.St) _); try dsimp only [L2.cxOf, L2H.cxH]
    walk_at "rd"
    refine use_take hS (by decide) fun way H1 w1 w2 _ f1 S1 => ?_
    walk_at "rd"
    refine use_take S1 (by decide) fun k H2 k1 k2 _ f2 S2 => ?_
    have k3 := k2 (by decide)
    walk_at "rd"
    refine ⟨st, 1 + k, rfl, S2, by omega, fun L H3 ns mL nL hL lL r f3 S3 => ?_⟩
    have F3 := f1.trans (f2.trans f3)
    have ll : (ns.map V.int).length = ns.length := List.length_map ..
    walk_at "rd"
    refine Vb.r_ite (fun c => ?_) (fun c => ?_)
    · walk_at "rd"
      refine use_take S3 (by decide) fun u H4 u1 u2 _ f4 S4 => ?_
      have u3 := u2 (by decide)
      have hL4 := f4.k _ _ mL hL
      walk_at "rd"
      rw [ll]
      walk_at "rd"
      intro D nD
      refine Vb.lcw_range (fun i H' => ∃ ms : List Int, NmS 102 st D i H4 H' ms) ⟨[], NmS.nil S4 nD⟩ (fun x => rfl) ?_ ?_
      · rintro i H' hi ⟨ms, v⟩
        walk_at "rd"
        refine use_prime v.S fun x H2 x1 x2 f2 S2 => ?_
        have := x1.1
        replace v := v.fr f2 S2
        exact ⟨_, v.h, Vb.size_lt (by rw [List.length_map, v.c]; show _ < 16777216; omega), _, v.app ⟨by omega, by omega⟩⟩
      rintro H5 ⟨ms, v⟩
      have vc := v.c
      have vl : (ms.length : Int) = 9 - ns.length + u := by omega
      have hL5 := v.f.k _ _ mL hL4
      refine Vb.r_cat hL5 v.h (Vb.size_ok (by rw [List.length_map, List.length_map]; omega)) fun B nB => ?_
      have eB := Vb.same_new (o := .lst (ns.map V.int ++ ms.map V.int)) nB
      have hB : (upd H5 B (.lst (ns.map V.int ++ ms.map V.int))) B = some (.lst ((ns ++ ms).map V.int)) := by rw [upd_same, List.map_append]
      have mB := v.S.ne nB
      have S6 := v.S.same eB
      have F6 := F3.trans (f4.trans (v.f.trans (Vb.Fr.of eB)))
      generalize upd H5 B _ = H6 at eB hB S6 F6 ⊢
      walk_at "rd"
      refine ⟨Vb.size_ok (by show 3 ≤ 16777216; decide), fun t nt => ?_⟩
      have et := Vb.same_new (o := .tup [.ref B, .str "TooLarge", .non]) nt
      walk_at "rd"
      refine q t B _ ((ns ++ ms).map PyData.int) "TooLarge" .non .none _ (S6.ne nt) mB upd_same (et _ _ hB) ⟨Vb.dpa_ints _, .non, trivial, by rw [List.length_map, List.length_append]; omega, .inl ⟨rfl, by rw [List.length_map, List.length_append]; omega⟩⟩ (F6.trans (Vb.Fr.of et)) (S6.same et)
    · walk_at "rd"
      refine use_take S3 (by rw [ll]; omega) fun at_ H4 a1 a2 a3 f4 S4 => ?_
      rw [ll] at a2 a3
      have hL4 := f4.k _ _ mL hL
      walk_at "rd"
      refine use_pick (ns.map V.int) S4 mL (Vb.sq_of hL4) (by rw [ll]; omega) (fun z => by have := congrArg List.length z; rw [ll] at this; simp at this; rw [this] at lL; simp at lL; omega) fun i x H5 hi f5 S5 => ?_
      obtain ⟨z, hz, rfl⟩ := Vb.getV' hi
      have mz := List.mem_of_getElem? hz
      have hL5 := f5.k _ _ mL hL4
      walk_at "rd"
      refine ⟨L, ns.map V.int, at_, .int z, rfl, rfl, hL5, Vb.size_lt (by rw [ll]; omega), a1, by omega, ?_⟩
      obtain ⟨ms, hms⟩ : ∃ ms : List Int, ms = ns.take at_.toNat ++ z :: ns.drop at_.toNat := ⟨_, rfl⟩
      have em : (ns.map V.int).take at_.toNat ++ [.int z] ++ (ns.map V.int).drop at_.toNat = ms.map V.int := by
        rw [hms, List.map_append, List.map_cons, List.map_take, List.map_drop, List.append_assoc]
        rfl
      have pm : ms.Perm (z :: ns) := by
        rw [hms]
        have := @List.perm_middle _ z (ns.take at_.toNat) (ns.drop at_.toNat)
        rwa [List.take_append_drop] at this
      have ml : ms.length = ns.length + 1 := pm.length_eq
      have mp : ∀ n ∈ ms, Vb.Prm n ∧ n ≤ 101 := fun n h => by
        rcases List.mem_cons.mp (pm.mem_iff.mp h) with rfl | h
        · exact r.p _ mz
        · exact r.p n h
      rw [em]
      have F25 : Vb.Fr st H2 (upd H5 L (.lst (ms.map V.int))) := (f3.trans (f4.trans f5)).mut nL
      have S6 : Vb.StoreAt (upd H5 L (.lst (ms.map V.int))) st := S2.mut nL (f3.trans (f4.trans f5)) S5
      have hL6 : (upd H5 L (.lst (ms.map V.int))) L = some (.lst (ms.map V.int)) := upd_same
      generalize upd H5 L _ = H6 at F25 S6 hL6 ⊢
      walk_at "rd"
      refine Vb.r_ite (fun c1 => ?_) (fun c1 => ?_)
      · walk_at "rd"
        refine ⟨Vb.size_ok (by show 3 ≤ 16777216; decide), fun t nt => ?_⟩
        have et := Vb.same_new (o := .tup [.ref L, .str "Repeated", .non]) nt
        walk_at "rd"
        refine q t L _ (ms.map PyData.int) "Repeated" .non .none _ (S6.ne nt) mL upd_same (et _ _ hL6) ⟨Vb.dpa_ints _, .non, trivial, by rw [List.length_map]; omega, .inr (.inl ⟨rfl, by rw [List.length_map]; omega, ms, rfl, rfl, mp, fun nd => (List.nodup_cons.mp (pm.nodup_iff.mp nd)).1 mz⟩)⟩ ((f1.trans (f2.trans F25)).trans (Vb.Fr.of et)) (S6.same et)
      · walk_at "rd"
        refine use_take S6 (by decide) fun u H7 u1 u2 _ f7 S7 => ?_
        walk_at "rd"
        refine Vb.r_ite (fun c2 => ?_) (fun c2 => ?_)
        · walk_at "rd"
          refine use_take S7 (by decide) fun u' H8 v1 v2 _ f8 S8 => ?_
          have v3 := v2 (by decide)
          walk_at "rd"
          refine ⟨st, 1 + u', rfl, S8, by omega, fun R G qs mR nR hR lq r2 fG SG => ?_⟩
          have F0 := f1.trans (f2.trans (F25.trans (f7.trans f8)))
          have S0 := S8
          have qp := r2.p
          have ql : 0 < qs.length ∧ qs.length ≤ 8 := by omega
          clear hL hL4 hL5 hL6 nL mL
          have lq' : (qs.map V.int).length = qs.length := List.length_map ..
          walk_at "rd"
          refine use_take SG (by rw [lq']; omega) fun j G1 j1 j2 j3 g1 T1 => ?_
          rw [lq'] at j2 j3
          obtain ⟨j, rfl⟩ : ∃ n : Nat, j = (n : Int) := ⟨j.toNat, by omega⟩
          have hj : j < qs.length := by
            by_cases c : 1 < (qs.length : Int)
            · have := j2 c; omega
            · have := j3 (by omega); omega
          have hR1 := g1.k _ _ mR hR
          walk_at "rd"
          refine ⟨st, rfl, T1, fun bv bd G2 hbd hbk g2 T2 dvZ => ?_⟩
          have dv := dvZ [R] (Vb.Trk.one hR1)
          have hR2 := g2.k _ _ mR hR1
          walk_at "rd"
          refine Vb.r_setL hR2 (Vb.ix_nat j rfl (by rw [lq']; exact hj)) ?_
          have F2 := (fG.trans (g1.trans g2)).mut (o := .lst ((qs.map V.int).set j bv)) nR
          have T3 := S0.mut (o := .lst ((qs.map V.int).set j bv)) nR (fG.trans (g1.trans g2)) T2
          have hR3 : (upd G2 R (.lst ((qs.map V.int).set j bv))) R = some (.lst ((qs.map V.int).set j bv)) := upd_same
          have dv3 := Vb.dp_same ((offs_updm (o := .lst ((qs.map V.int).set j bv)) (List.mem_cons_of_mem _ (List.mem_cons_self ..))).trans offs_less1) _ _ dv
          generalize upd G2 R _ = G3 at F2 T3 hR3 dv3 ⊢
          walk_at "rd"
          refine ⟨Vb.size_ok (by show 3 ≤ 16777216; decide), fun t nt => ?_⟩
          have et := Vb.same_new (o := .tup [.ref R, .str "NotPrime", bv]) nt
          have dv4 := Vb.dp_same (Vb.offs_same et) _ _ dv3
          walk_at "rd"
          refine q t R _ ((qs.map PyData.int).set j bd) "NotPrime" bv bd _ (T3.ne nt) mR upd_same (et _ _ hR3) ⟨dpa_set (Vb.dpa_ints _) dv4, dv4, hbk, by rw [List.length_set, lq']; omega, .inr (.inr ⟨rfl, by rw [List.length_set, lq']; omega, hbd, j, by rw [List.getElem?_set_self (by rw [lq']; exact hj)], by rw [List.getElem?_set_self (by rw [List.length_map]; exact hj)], fun i e hi he => ?_⟩)⟩ ((F0.trans F2).trans (Vb.Fr.of et)) (T3.same et)
          rw [List.getElem?_set_ne (by omega), List.getElem?_map] at he
          cases hq : qs[i]? with
          | none => rw [hq] at he; cases he
          | some y =>
            rw [hq] at he
            cases he
            have := qp y (List.mem_of_getElem? hq)
            exact field_yes this.1 this.2
        · obtain ⟨R, rfl⟩ : ∃ R, R = L := ⟨_, rfl⟩
          have hR := f7.k _ _ mL hL6
          have mR := mL
          have nR := nL
          have F0 := f1.trans f2
          have S0 := S2
          have fG := F25.trans f7
          have SG := S7
          obtain ⟨qs, rfl⟩ : ∃ qs, qs = ms := ⟨_, rfl⟩
          have qp := mp
          have ql : 0 < qs.length ∧ qs.length ≤ 8 := by omega
          obtain ⟨G, rfl⟩ : ∃ G, G = H7 := ⟨_, rfl⟩
          have lq' : (qs.map V.int).length = qs.length := List.length_map ..
          walk_at "rd"
          refine use_take SG (by rw [lq']; omega) fun j G1 j1 j2 j3 g1 T1 => ?_
          rw [lq'] at j2 j3
          obtain ⟨j, rfl⟩ : ∃ n : Nat, j = (n : Int) := ⟨j.toNat, by omega⟩
          have hj : j < qs.length := by
            by_cases c : 1 < (qs.length : Int)
            · have := j2 c; omega
            · have := j3 (by omega); omega
          have hR1 := g1.k _ _ mR hR
          walk_at "rd"
          refine ⟨st, rfl, T1, fun bv bd G2 hbd hbk g2 T2 dvZ => ?_⟩
          have dv := dvZ [R] (Vb.Trk.one hR1)
          have hR2 := g2.k _ _ mR hR1
          walk_at "rd"
          refine Vb.r_setL hR2 (Vb.ix_nat j rfl (by rw [lq']; exact hj)) ?_
          have F2 := (fG.trans (g1.trans g2)).mut (o := .lst ((qs.map V.int).set j bv)) nR
          have T3 := S0.mut (o := .lst ((qs.map V.int).set j bv)) nR (fG.trans (g1.trans g2)) T2
          have hR3 : (upd G2 R (.lst ((qs.map V.int).set j bv))) R = some (.lst ((qs.map V.int).set j bv)) := upd_same
          have dv3 := Vb.dp_same ((offs_updm (o := .lst ((qs.map V.int).set j bv)) (List.mem_cons_of_mem _ (List.mem_cons_self ..))).trans offs_less1) _ _ dv
          generalize upd G2 R _ = G3 at F2 T3 hR3 dv3 ⊢
          walk_at "rd"
          refine ⟨Vb.size_ok (by show 3 ≤ 16777216; decide), fun t nt => ?_⟩
          have et := Vb.same_new (o := .tup [.ref R, .str "NotPrime", bv]) nt
          have dv4 := Vb.dp_same (Vb.offs_same et) _ _ dv3
          walk_at "rd"
          refine q t R _ ((qs.map PyData.int).set j bd) "NotPrime" bv bd _ (T3.ne nt) mR upd_same (et _ _ hR3) ⟨dpa_set (Vb.dpa_ints _) dv4, dv4, hbk, by rw [List.length_set, lq']; omega, .inr (.inr ⟨rfl, by rw [List.length_set, lq']; omega, hbd, j, by rw [List.getElem?_set_self (by rw [lq']; exact hj)], by rw [List.getElem?_set_self (by rw [List.length_map]; exact hj)], fun i e hi he => ?_⟩)⟩ ((F0.trans F2).trans (Vb.Fr.of et)) (T3.same et)
          rw [List.getElem?_set_ne (by omega), List.getElem?_map] at he
          cases hq : qs[i]? with
          | none => rw [hq] at he; cases he
          | some y =>
            rw [hq] at he
            cases he
            have := qp y (List.mem_of_getElem? hq)
            exact field_yes this.1 this.2
end
end K
namespace K
open PySem PySem.Spec PyProof.Rows L2
section
/-! coefficients, told by their places -/
def co (xs : List Int) (k : Nat) : Int := xs.getD k 0
def trim : List Int → List Int
  | [] => []
  | x :: xs => match trim xs with
    | [] => if x = 0 then [] else [x]
    | y :: ys => x :: y :: ys
theorem co_nil (k : Nat) : co [] k = 0 := by unfold co; simp
theorem co_zero (x : Int) (xs : List Int) : co (x :: xs) 0 = x := rfl
theorem co_succ (x : Int) (xs : List Int) (k : Nat) : co (x :: xs) (k + 1) = co xs k := rfl
theorem co_out {xs : List Int} {k : Nat} (h : xs.length ≤ k) : co xs k = 0 := by
  unfold co
  rw [List.getD_eq_getElem?_getD, List.getElem?_eq_none h]
  rfl
theorem co_in {xs : List Int} {k : Nat} (h : k < xs.length) : xs[k]? = some (co xs k) := by
  unfold co
  rw [List.getD_eq_getElem?_getD, List.getElem?_eq_getElem h]
  rfl
theorem co_trim : ∀ (xs : List Int) (k : Nat), co (trim xs) k = co xs k
  | [], k => rfl
  | x :: xs, k => by
    have ih := co_trim xs
    unfold trim
    cases e : trim xs with
    | nil =>
      rw [e] at ih
      show co (if x = 0 then [] else [x]) k = _
      cases k with
      | zero =>
        split
        · rename_i h; rw [h]; rfl
        · rfl
      | succ k =>
        rw [co_succ, ← ih k]
        split
        · rw [co_nil, co_nil]
        · rw [co_succ]
    | cons y ys =>
      rw [e] at ih
      show co (x :: y :: ys) k = _
      cases k with
      | zero => rfl
      | succ k => rw [co_succ, co_succ, ih]
theorem trim_nil_of : ∀ (xs : List Int), (∀ k, co xs k = 0) → trim xs = []
  | [], _ => rfl
  | x :: xs, h => by
    have e := trim_nil_of xs fun k => h (k + 1)
    have z : x = 0 := h 0
    unfold trim
    rw [e, z]
    rfl
theorem trim_ext : ∀ (xs ys : List Int), (∀ k, co xs k = co ys k) → trim xs = trim ys
  | [], ys, h => (trim_nil_of ys fun k => by rw [← h k, co_nil]).symm
  | x :: xs, [], h => trim_nil_of _ fun k => by rw [h k, co_nil]
  | x :: xs, y :: ys, h => by
    have e := trim_ext xs ys fun k => h (k + 1)
    have z : x = y := h 0
    unfold trim
    rw [e, z]
theorem trim_trim (xs : List Int) : trim (trim xs) = trim xs := trim_ext _ _ (co_trim xs)
theorem trim_len : ∀ (xs : List Int), (trim xs).length ≤ xs.length
  | [] => Nat.le_refl _
  | x :: xs => by
    have ih := trim_len xs
    unfold trim
    cases e : trim xs with
    | nil =>
      show (if x = 0 then [] else [x]).length ≤ _
      split
      · exact Nat.zero_le _
      · exact Nat.succ_le_succ (Nat.zero_le _)
    | cons y ys =>
      rw [e] at ih
      exact Nat.succ_le_succ ih
theorem trim_mem {xs : List Int} {c : Int} (h : c ∈ trim xs) : c ∈ xs := by
  obtain ⟨k, hk⟩ := List.getElem?_of_mem h
  have h1 := (List.getElem?_eq_some_iff.mp hk).1
  have h2 : k < xs.length := Nat.lt_of_lt_of_le h1 (trim_len xs)
  have e1 := co_in h1
  rw [hk, co_trim] at e1
  have e2 := co_in h2
  rw [← e1] at e2
  exact List.mem_of_getElem? e2
/-- a list without its last item, which is 0 -/
theorem trim_snoc (xs : List Int) : trim (xs ++ [0]) = trim xs := trim_ext _ _ fun k => by
  by_cases h : k < xs.length
  · unfold co
    rw [List.getD_eq_getElem?_getD, List.getD_eq_getElem?_getD, List.getElem?_append_left h]
  · rw [co_out (xs := xs) (by omega)]
    unfold co
    rw [List.getD_eq_getElem?_getD, List.getElem?_append_right (by omega)]
    cases k - xs.length with
    | zero => rfl
    | succ j => rfl
/-- the last item is not 0: nothing is taken off -/
theorem trim_full (xs : List Int) (x : Int) (h : x ≠ 0) : trim (xs ++ [x]) = xs ++ [x] := by
  induction xs with
  | nil =>
    show (if x = 0 then [] else [x]) = [x]
    rw [if_neg h]
  | cons y ys ih =>
    show trim (y :: (ys ++ [x])) = y :: (ys ++ [x])
    unfold trim
    rw [ih]
    cases ys <;> rfl
/-- sums over the numbers below n -/
def su : Nat → (Nat → Int) → Int
  | 0, _ => 0
  | n + 1, f => su n f + f n
theorem su_congr {n : Nat} {f g : Nat → Int} (h : ∀ i, i < n → f i = g i) : su n f = su n g := by
  induction n with
  | zero => rfl
  | succ n ih =>
    show su n f + f n = su n g + g n
    rw [ih fun i hi => h i (by omega), h n (by omega)]
theorem su_zero (n : Nat) : su n (fun _ => 0) = 0 := by
  induction n with
  | zero => rfl
  | succ n ih => show su n _ + 0 = 0; rw [ih]; rfl
theorem su_add (n : Nat) (f g : Nat → Int) : su n (fun i => f i + g i) = su n f + su n g := by
  induction n with
  | zero => rfl
  | succ n ih => show su n _ + (f n + g n) = su n f + f n + (su n g + g n); rw [ih]; omega
theorem su_mul (n : Nat) (c : Int) (f : Nat → Int) : su n (fun i => c * f i) = c * su n f := by
  induction n with
  | zero => exact (Int.mul_zero c).symm
  | succ n ih => show su n _ + c * f n = c * (su n f + f n); rw [ih, Int.mul_add]
theorem su_swap (n m : Nat) (f : Nat → Nat → Int) : su n (fun i => su m (f i)) = su m (fun j => su n fun i => f i j) := by
  induction n with
  | zero => exact (su_zero m).symm
  | succ n ih =>
    show su n _ + su m (f n) = su m (fun j => su n (fun i => f i j) + f n j)
    rw [ih, su_add]
theorem su_more {n m : Nat} {f : Nat → Int} (h : n ≤ m) (z : ∀ i, n ≤ i → f i = 0) : su m f = su n f := by
  induction m with
  | zero => rw [show n = 0 by omega]
  | succ m ih =>
    by_cases e : n = m + 1
    · rw [e]
    · show su m f + f m = su n f
      rw [ih (by omega), z m (by omega), Int.add_zero]
/-- one place alone is not 0 -/
theorem su_one {n k : Nat} {c : Int} (h : k < n) : su n (fun i => if i = k then c else 0) = c := by
  induction n with
  | zero => omega
  | succ n ih =>
    show su n _ + (if n = k then c else 0) = c
    by_cases e : n = k
    · rw [if_pos e, su_congr (g := fun _ => 0) (fun i hi => if_neg (by omega)), su_zero, Int.zero_add]
    · rw [if_neg e, ih (by omega), Int.add_zero]
/-- the value at x -/
def ev (xs : List Int) (x : Int) : Int := su xs.length fun k => co xs k * x ^ k
theorem ev_long {xs : List Int} {n : Nat} (h : xs.length ≤ n) (x : Int) : ev xs x = su n fun k => co xs k * x ^ k := (su_more h fun i hi => by rw [co_out hi, Int.zero_mul]).symm
theorem ev_ext {xs ys : List Int} (h : ∀ k, co xs k = co ys k) (x : Int) : ev xs x = ev ys x := by
  rw [ev_long (Nat.le_max_left xs.length ys.length), ev_long (Nat.le_max_right xs.length ys.length)]
  exact su_congr fun i _ => by rw [h i]
/-- the product's coefficient at k -/
def cv (xs ys : List Int) (k : Nat) : Int := su xs.length fun i => su ys.length fun j => if i + j = k then co xs i * co ys j else 0
theorem cv_long {xs ys : List Int} {n m : Nat} (h1 : xs.length ≤ n) (h2 : ys.length ≤ m) (k : Nat) : cv xs ys k = su n fun i => su m fun j => if i + j = k then co xs i * co ys j else 0 := by
  unfold cv
  exact (su_congr fun i _ => (su_more h2 fun j hj => by rw [co_out hj, Int.mul_zero]; split <;> rfl).symm).trans (su_more (f := fun i => su m fun j => if i + j = k then co xs i * co ys j else 0) h1 (fun i hi => by rw [co_out hi]; rw [su_congr (g := fun _ => 0) (fun j _ => by rw [Int.zero_mul]; split <;> rfl), su_zero])).symm
theorem cv_ext {xs ys us vs : List Int} (h1 : ∀ k, co xs k = co us k) (h2 : ∀ k, co ys k = co vs k) (k : Nat) : cv xs ys k = cv us vs k := by
  rw [cv_long (Nat.le_max_left xs.length us.length) (Nat.le_max_left ys.length vs.length), cv_long (Nat.le_max_right xs.length us.length) (Nat.le_max_right ys.length vs.length)]
  exact su_congr fun i _ => su_congr fun j _ => by rw [h1 i, h2 j]
theorem cv_comm (xs ys : List Int) (k : Nat) : cv xs ys k = cv ys xs k := by
  unfold cv
  rw [su_swap]
  exact su_congr fun i _ => su_congr fun j _ => by rw [Nat.add_comm, Int.mul_comm]
theorem cv_out {xs ys : List Int} {k : Nat} (h : xs.length + ys.length ≤ k + 1) : cv xs ys k = 0 := by
  unfold cv
  rw [su_congr (g := fun _ => 0) (fun i hi => ?_), su_zero]
  rw [su_congr (g := fun _ => 0) (fun j hj => if_neg (by omega)), su_zero]
theorem ipow_plus (n : Int) (a : Nat) : ∀ b : Nat, n ^ (a + b) = n ^ a * n ^ b
  | 0 => by rw [Int.pow_zero, Int.mul_one, Nat.add_zero]
  | b + 1 => by rw [← Nat.add_assoc, Int.pow_succ, ipow_plus n a b, Int.pow_succ, Int.mul_assoc]
/-- the values of the product are the products of the values -/
theorem cv_ev (xs ys : List Int) (x : Int) {n : Nat} (h : xs.length + ys.length ≤ n) : (su n fun k => cv xs ys k * x ^ k) = ev xs x * ev ys x := by
  have e1 : (su n fun k => cv xs ys k * x ^ k) = su xs.length fun i => su ys.length fun j => co xs i * co ys j * x ^ (i + j) := by
    rw [su_congr (g := fun k => su xs.length fun i => su ys.length fun j => if i + j = k then co xs i * co ys j * x ^ k else 0) (fun k _ => ?_), su_swap]
    · refine su_congr fun i hi => ?_
      rw [su_swap]
      refine su_congr fun j hj => ?_
      rw [su_congr (g := fun k => if k = i + j then co xs i * co ys j * x ^ (i + j) else 0) (fun k _ => ?_), su_one (by omega)]
      by_cases z : i + j = k
      · rw [if_pos z, if_pos z.symm, z]
      · rw [if_neg z, if_neg (Ne.symm z)]
    · unfold cv
      rw [Int.mul_comm, ← su_mul]
      refine su_congr fun i _ => ?_
      rw [← su_mul]
      refine su_congr fun j _ => ?_
      split
      · rw [Int.mul_comm]
      · rw [Int.mul_zero]
  rw [e1]
  unfold ev
  rw [Int.mul_comm, ← su_mul]
  refine su_congr fun i _ => ?_
  rw [Int.mul_comm, ← su_mul]
  refine su_congr fun j _ => ?_
  rw [ipow_plus]
  simp only [Int.mul_assoc, Int.mul_left_comm]
/-- the value at x, found from behind -/
def hn (x : Int) : List Int → Int
  | [] => 0
  | c :: cs => c + x * hn x cs
theorem su_head (n : Nat) (f : Nat → Int) : su (n + 1) f = f 0 + su n (fun i => f (i + 1)) := by
  induction n with
  | zero => show 0 + f 0 = f 0 + 0; omega
  | succ n ih =>
    show su (n + 1) f + f (n + 1) = f 0 + (su n (fun i => f (i + 1)) + f (n + 1))
    rw [ih, Int.add_assoc]
theorem hn_ev (x : Int) : ∀ cs : List Int, hn x cs = ev cs x
  | [] => rfl
  | c :: cs => by
    show c + x * hn x cs = su (cs.length + 1) _
    rw [su_head, hn_ev x cs]
    show _ = c * x ^ 0 + su cs.length (fun i => co cs i * x ^ (i + 1))
    rw [Int.pow_zero, Int.mul_one]
    unfold ev
    rw [← su_mul]
    congr 1
    refine su_congr fun i _ => ?_
    rw [Int.pow_succ, Int.mul_comm, Int.mul_assoc]
theorem su_emod (n : Nat) (f : Nat → Int) (p : Int) : su n (fun i => f i % p) % p = su n f % p := by
  induction n with
  | zero => rfl
  | succ n ih =>
    show (su n (fun i => f i % p) + f n % p) % p = (su n f + f n) % p
    rw [Int.add_emod, ih, Int.emod_emod_of_dvd _ (Int.dvd_refl p), ← Int.add_emod]
theorem mul_emod_l (a b p : Int) : a % p * b % p = a * b % p := by rw [Int.mul_emod, Int.emod_emod_of_dvd _ (Int.dvd_refl p), ← Int.mul_emod]
theorem ev_mod {xs ys : List Int} {p x : Int} (h : ∀ k, co ys k = co xs k % p) : ev ys x % p = ev xs x % p := by
  rw [ev_long (Nat.le_max_left ys.length xs.length), ev_long (Nat.le_max_right ys.length xs.length), ← su_emod, ← su_emod _ (fun k => co xs k * x ^ k)]
  congr 1
  exact su_congr fun i _ => by rw [h i, mul_emod_l]
theorem co_map_g {cs : List Int} {g : Int → Int} (h0 : g 0 = 0) (k : Nat) : co (cs.map g) k = g (co cs k) := by
  by_cases h : k < cs.length
  · have e := co_in (xs := cs.map g) (k := k) (by rw [List.length_map]; exact h)
    rw [List.getElem?_map, co_in h] at e
    exact (Option.some.inj e).symm
  · rw [co_out (by rw [List.length_map]; omega), co_out (by omega), h0]
end
end K
namespace K
open PySem PySem.Spec PyProof.Rows L2
section
theorem nozero_table : (List.range 102).all (fun p => !Vb.isP (p : Int) || (List.range p).all fun a => a == 0 || (List.range p).all fun b => b == 0 || !((a * b) % p == 0)) = true := by decide +kernel
theorem nozero {p a b : Int} (hp : Vb.Prm p) (h1 : p ≤ 101) (ha : 0 < a ∧ a < p) (hb : 0 < b ∧ b < p) : a * b % p ≠ 0 := by
  have h0 := hp.1
  have t := List.all_eq_true.mp nozero_table p.toNat (List.mem_range.mpr (by omega))
  rw [show ((p.toNat : Nat) : Int) = p by omega, (Vb.isP_iff p).mpr hp, Bool.not_true, Bool.false_or] at t
  have t2 := List.all_eq_true.mp t a.toNat (List.mem_range.mpr (by omega))
  rw [show (a.toNat == 0) = false by rw [beq_eq_false_iff_ne]; omega, Bool.false_or] at t2
  have t3 := List.all_eq_true.mp t2 b.toNat (List.mem_range.mpr (by omega))
  rw [show (b.toNat == 0) = false by rw [beq_eq_false_iff_ne]; omega, Bool.false_or] at t3
  intro z
  have e : ((a.toNat * b.toNat) % p.toNat : Nat) = 0 := by
    have : ((((a.toNat * b.toNat) % p.toNat : Nat)) : Int) = a * b % p := by
      rw [Int.natCast_emod, Int.natCast_mul, Int.toNat_of_nonneg (by omega), Int.toNat_of_nonneg (by omega), Int.toNat_of_nonneg (by omega)]
    rw [z] at this
    exact Int.ofNat_eq_zero.mp this
  rw [e] at t3
  cases t3
theorem trim_last : ∀ zs : List Int, trim zs ≠ [] → co (trim zs) ((trim zs).length - 1) ≠ 0
  | [], h => absurd rfl h
  | z :: zs, h => by
    have ih := trim_last zs
    unfold trim at h ⊢
    cases e : trim zs with
    | nil =>
      rw [e] at h
      by_cases z0 : z = 0
      · exact absurd (if_pos z0) h
      · show co (if z = 0 then [] else [z]) _ ≠ 0
        rw [if_neg z0]
        exact z0
    | cons y ys =>
      rw [e] at ih
      exact ih (by simp)
theorem trim_short {zs : List Int} {n : Nat} (h : ∀ k, n ≤ k → co zs k = 0) : (trim zs).length ≤ n := by
  by_cases e : trim zs = []
  · rw [e]
    exact Nat.zero_le _
  · have h1 := trim_last zs e
    have h2 : 0 < (trim zs).length := List.length_pos_iff.mpr e
    by_cases h3 : (trim zs).length ≤ n
    · exact h3
    · rw [co_trim, h _ (by omega)] at h1
      exact absurd rfl h1
theorem trim_long {zs : List Int} {n : Nat} (h : co zs n ≠ 0) : n < (trim zs).length := by
  by_cases e : n < (trim zs).length
  · exact e
  · exact absurd (by rw [← co_trim, co_out (by omega)]) h
theorem cv_top {xs ys : List Int} (h1 : xs ≠ []) (h2 : ys ≠ []) : cv xs ys (xs.length - 1 + (ys.length - 1)) = co xs (xs.length - 1) * co ys (ys.length - 1) := by
  have l1 := List.length_pos_iff.mpr h1
  have l2 := List.length_pos_iff.mpr h2
  unfold cv
  rw [su_congr (g := fun i => if i = xs.length - 1 then co xs (xs.length - 1) * co ys (ys.length - 1) else 0) (fun i hi => ?_), su_one (by omega)]
  by_cases e : i = xs.length - 1
  · rw [if_pos e, su_congr (g := fun j => if j = ys.length - 1 then co xs (xs.length - 1) * co ys (ys.length - 1) else 0) (fun j hj => ?_), su_one (by omega)]
    by_cases e2 : j = ys.length - 1
    · rw [if_pos e2, if_pos (by omega), e, e2]
    · rw [if_neg e2, if_neg (by omega)]
  · rw [if_neg e, su_congr (g := fun _ => 0) (fun j hj => if_neg (by omega)), su_zero]
/-- a product that is too long, or one that is not -/
theorem prod_big {xs ys : List Int} {p : Int} (hp : Vb.Prm p ∧ p ≤ 101) (t1 : trim xs = xs) (t2 : trim ys = ys) (b1 : ∀ k, 0 ≤ co xs k ∧ co xs k < p) (b2 : ∀ k, 0 ≤ co ys k ∧ co ys k < p) (n1 : xs ≠ []) (n2 : ys ≠ []) (h : 128 < xs.length + ys.length - 1) (zs : List Int) (hz : ∀ k, co zs k = cv xs ys k % p) : 128 < (trim zs).length := by
  have l1 := List.length_pos_iff.mpr n1
  have l2 := List.length_pos_iff.mpr n2
  have e1 := trim_last xs (by rw [t1]; exact n1)
  have e2 := trim_last ys (by rw [t2]; exact n2)
  rw [t1] at e1
  rw [t2] at e2
  have c1 := b1 (xs.length - 1)
  have c2 := b2 (ys.length - 1)
  have := trim_long (zs := zs) (n := xs.length - 1 + (ys.length - 1)) (by
    rw [hz, cv_top n1 n2]
    exact nozero hp.1 hp.2 ⟨by omega, c1.2⟩ ⟨by omega, c2.2⟩)
  omega
theorem prod_fits {xs ys : List Int} {p : Int} (h : xs.length + ys.length - 1 ≤ 128 ∨ xs = [] ∨ ys = []) (zs : List Int) (hz : ∀ k, co zs k = cv xs ys k % p) : (trim zs).length ≤ 128 := by
  refine trim_short fun k hk => ?_
  rw [hz]
  rcases h with h | h | h
  · rw [cv_out (by omega), Int.zero_emod]
  · subst h
    exact Int.zero_emod _
  · subst h
    rw [cv_comm]
    exact Int.zero_emod _
end
end K
namespace K
open PySem PySem.Spec PyProof.Rows L2
section
theorem pinv_table : (List.range 102).all (fun p => !Vb.isP (p : Int) || (List.range p).all fun n => n == 0 || decide ((n : Int) * ((n : Int) ^ (p - 2) % (p : Int)) % (p : Int) = 1)) = true := by decide +kernel
theorem pinv {p n : Int} (hp : Vb.Prm p) (h1 : p ≤ 101) (h2 : 0 < n) (h3 : n < p) : n * (n ^ (p - 2).toNat % p) % p = 1 := by
  have h0 := hp.1
  have a := List.all_eq_true.mp pinv_table p.toNat (List.mem_range.mpr (by omega))
  rw [show ((p.toNat : Nat) : Int) = p by omega, (Vb.isP_iff p).mpr hp, Bool.not_true, Bool.false_or] at a
  have b := List.all_eq_true.mp a n.toNat (List.mem_range.mpr (by omega))
  rw [show ((n.toNat : Nat) : Int) = n by omega, show (n.toNat == 0) = false by rw [beq_eq_false_iff_ne]; omega, Bool.false_or, decide_eq_true_iff, show p.toNat - 2 = (p - 2).toNat by omega] at b
  exact b
end
end K
namespace K
open PySem PySem.Spec PyProof.Rows L2
section
theorem mul_zero_mod {p a b : Int} (hp : Vb.Prm p ∧ p ≤ 101) (h : a * b % p = 0) : a % p = 0 ∨ b % p = 0 := by
  have h0 := hp.1.1
  by_cases ha : a % p = 0
  · exact .inl ha
  by_cases hb : b % p = 0
  · exact .inr hb
  exfalso
  have a1 := Int.emod_nonneg a (show p ≠ 0 by omega)
  have a2 := Int.emod_lt_of_pos a (show 0 < p by omega)
  have b1 := Int.emod_nonneg b (show p ≠ 0 by omega)
  have b2 := Int.emod_lt_of_pos b (show 0 < p by omega)
  refine nozero hp.1 hp.2 (a := a % p) (b := b % p) ⟨by omega, a2⟩ ⟨by omega, b2⟩ ?_
  rw [← Int.mul_emod]
  exact h
theorem pr_cons (n : Int) (ns : List Int) : pr (n :: ns) = n * pr ns := by
  show pr ([n] ++ ns) = n * pr ns
  rw [pr_perm (List.perm_append_comm (l₁ := [n]) (l₂ := ns)), pr_app, Int.mul_comm]
theorem prm_other {p n : Int} (hp : Vb.Prm p) (hn : Vb.Prm n) (ne : n ≠ p) : n % p ≠ 0 := fun z => by
  have h1 := hp.1
  have h2 := hn.1
  rcases Int.lt_or_gt_of_ne ne with h | h
  · rw [Int.emod_eq_of_lt (by omega) h] at z
    omega
  · exact hn.2 p h1 h z
theorem pr_ndvd {p : Int} (hp : Vb.Prm p ∧ p ≤ 101) : ∀ {ns : List Int}, (∀ n ∈ ns, Vb.Prm n ∧ n ≤ 101) → p ∉ ns → pr ns % p ≠ 0
  | [], _, _ => fun z => by
    have := hp.1.1
    rw [show pr [] = 1 from rfl, Int.emod_eq_of_lt (by decide) (by omega)] at z
    cases z
  | n :: ns, h, nm => fun z => by
    rw [pr_cons] at z
    rcases mul_zero_mod hp z with z | z
    · exact prm_other hp.1 (h n (List.mem_cons_self ..)).1 (fun e => nm (e ▸ List.mem_cons_self ..)) z
    · exact pr_ndvd hp (fun m hm => h m (List.mem_cons_of_mem _ hm)) (fun hm => nm (List.mem_cons_of_mem _ hm)) z
theorem pr_dvd : ∀ {ns : List Int}, (∀ n ∈ ns, Vb.Prm n ∧ n ≤ 101) → ns.Nodup → ∀ {z : Int}, (∀ n ∈ ns, z % n = 0) → z % pr ns = 0
  | [], _, _, z, _ => by rw [show pr [] = 1 from rfl]; exact Int.emod_one z
  | n :: ns, h, nd, z, hz => by
    have ⟨n1, n2⟩ := List.nodup_cons.mp nd
    have ih := pr_dvd (fun m hm => h m (List.mem_cons_of_mem _ hm)) n2 fun m hm => hz m (List.mem_cons_of_mem _ hm)
    obtain ⟨c, hc⟩ := Int.dvd_of_emod_eq_zero ih
    have hn := h n (List.mem_cons_self ..)
    have z0 := hz n (List.mem_cons_self ..)
    rw [hc] at z0
    rcases mul_zero_mod hn z0 with y | y
    · exact absurd y (pr_ndvd hn (fun m hm => h m (List.mem_cons_of_mem _ hm)) n1)
    · obtain ⟨d, hd⟩ := Int.dvd_of_emod_eq_zero y
      rw [hc, hd, pr_cons]
      refine Int.emod_eq_zero_of_dvd ⟨d, ?_⟩
      rw [Int.mul_comm n (pr ns), Int.mul_assoc]
theorem pr_mem {ns : List Int} {n : Int} (h : n ∈ ns) : pr ns % n = 0 := by
  obtain ⟨a, b, rfl⟩ := List.append_of_mem h
  rw [pr_perm List.perm_middle, pr_cons]
  exact Int.mul_emod_right _ _
/-- the number below the product with these rests is one -/
theorem crt_one {ns : List Int} (h : ∀ n ∈ ns, Vb.Prm n ∧ n ≤ 101) (nd : ns.Nodup) {x y : Int} (hx : 0 ≤ x ∧ x < pr ns) (hy : 0 ≤ y ∧ y < pr ns) (e : ∀ n ∈ ns, x % n = y % n) : x = y := by
  have z := pr_dvd h nd (z := x - y) fun n m => Int.emod_eq_emod_iff_emod_sub_eq_zero.mp (e n m)
  have := Int.emod_eq_emod_iff_emod_sub_eq_zero.mpr z
  rw [Int.emod_eq_of_lt hx.1 hx.2, Int.emod_eq_of_lt hy.1 hy.2] at this
  exact this
theorem pr_le : ∀ {ns : List Int}, (∀ n ∈ ns, 2 ≤ n ∧ n ≤ 101) → 1 ≤ pr ns ∧ pr ns ≤ 101 ^ ns.length
  | [], _ => ⟨by decide, by decide⟩
  | n :: ns, h => by
    have ⟨a, b⟩ := pr_le (ns := ns) fun m hm => h m (List.mem_cons_of_mem _ hm)
    have ⟨c, d⟩ := h n (List.mem_cons_self ..)
    rw [pr_cons, List.length_cons, Int.pow_succ]
    have h1 : 1 * 1 ≤ n * pr ns := Int.mul_le_mul (by omega) a (by decide) (by omega)
    have h2 : n * pr ns ≤ 101 * 101 ^ ns.length := Int.mul_le_mul d b (by omega) (by decide)
    rw [Int.mul_comm (101 ^ ns.length)]
    exact ⟨by omega, h2⟩
theorem pr_small {ns : List Int} (h : ∀ n ∈ ns, Vb.Prm n ∧ n ≤ 101) (l : ns.length ≤ 8) : 1 ≤ pr ns ∧ pr ns < 2 ^ 60 := by
  have ⟨a, b⟩ := pr_le (ns := ns) fun n m => ⟨(h n m).1.1, (h n m).2⟩
  have : ∀ k, k ≤ 8 → (101 : Int) ^ k < 2 ^ 60 := fun k hk => by
    have : k = 0 ∨ k = 1 ∨ k = 2 ∨ k = 3 ∨ k = 4 ∨ k = 5 ∨ k = 6 ∨ k = 7 ∨ k = 8 := by omega
    rcases this with rfl | rfl | rfl | rfl | rfl | rfl | rfl | rfl | rfl <;> decide
  exact ⟨a, Int.lt_of_le_of_lt b (this _ l)⟩
/-- what is found when i rests are met -/
structure Crt (ns rs : List Int) (i : Nat) (f : Int) : Prop where
  lo : 0 ≤ f
  hi : f < pr (ns.take i)
  at_ : ∀ (j : Nat) p r, j < i → ns[j]? = some p → rs[j]? = some r → f % p = r
theorem Crt.start {ns rs : List Int} : Crt ns rs 0 0 := ⟨by decide, by show (0 : Int) < 1; decide, fun j p r h => by omega⟩
theorem Crt.step {ns rs : List Int} {i : Nat} {f p r : Int} (h : ∀ n ∈ ns, Vb.Prm n ∧ n ≤ 101) (nd : ns.Nodup) (c : Crt ns rs i f) (hp : ns[i]? = some p) (hr : rs[i]? = some r) (br : 0 ≤ r ∧ r < p) :
    (0 < pr (ns.take i) % p ∧ pr (ns.take i) % p < p) ∧ ∀ d : Int, d = (r - f) % p * ((pr (ns.take i) % p) ^ (p - 2).toNat % p) % p → Crt ns rs (i + 1) (f + pr (ns.take i) * d) := by
  have pp := h p (List.mem_of_getElem? hp)
  have p2 := pp.1.1
  have li := (List.getElem?_eq_some_iff.mp hp).1
  have ht : ∀ n ∈ ns.take i, Vb.Prm n ∧ n ≤ 101 := fun n m => h n (List.mem_of_mem_take m)
  have nm : p ∉ ns.take i := fun m => by
    obtain ⟨j, hj⟩ := List.getElem?_of_mem m
    have lj := (List.getElem?_eq_some_iff.mp hj).1
    rw [List.length_take] at lj
    rw [List.getElem?_take_of_lt (by omega)] at hj
    have := (List.pairwise_iff_getElem.mp nd) j i (by omega) li (by omega)
    rw [List.getElem?_eq_getElem (by omega)] at hj hp
    exact this ((Option.some.inj hj).trans (Option.some.inj hp).symm)
  have n0 := pr_ndvd pp ht nm
  have y0 := Int.emod_nonneg (pr (ns.take i)) (show p ≠ 0 by omega)
  have y1 := Int.emod_lt_of_pos (pr (ns.take i)) (show 0 < p by omega)
  refine ⟨⟨by omega, y1⟩, fun d hd => ?_⟩
  have inv := pinv pp.1 pp.2 (n := pr (ns.take i) % p) (by omega) y1
  have d0 : 0 ≤ d ∧ d < p := by rw [hd]; exact ⟨Int.emod_nonneg _ (by omega), Int.emod_lt_of_pos _ (by omega)⟩
  have pos := pr_pos (ns := ns.take i) fun n m => (ht n m).1.1
  have e1 : pr (ns.take i) * d % p = (r - f) % p := by
    rw [Int.mul_emod, hd, Int.emod_emod_of_dvd _ (Int.dvd_refl p)]
    generalize pr (ns.take i) % p = y at *
    generalize y ^ (p - 2).toNat % p = v at *
    have h1 : y * ((r - f) % p * v % p) % p = y * ((r - f) % p * v) % p := by rw [Int.mul_emod y ((r - f) % p * v % p), Int.emod_emod_of_dvd _ (Int.dvd_refl p), ← Int.mul_emod]
    rw [h1, Int.mul_left_comm, Int.mul_emod ((r - f) % p), inv, Int.mul_one, Int.emod_emod_of_dvd _ (Int.dvd_refl p), Int.emod_emod_of_dvd _ (Int.dvd_refl p)]
  refine ⟨?_, ?_, fun j q s hj hq hs => ?_⟩
  · have := Int.mul_nonneg (show 0 ≤ pr (ns.take i) by omega) d0.1
    have := c.lo
    omega
  · rw [pr_take hp]
    have : pr (ns.take i) * d ≤ pr (ns.take i) * (p - 1) := Int.mul_le_mul_of_nonneg_left (by omega) (by omega)
    rw [Int.mul_sub, Int.mul_one] at this
    have := c.hi
    omega
  · by_cases z : j < i
    · have q0 : pr (ns.take i) % q = 0 := pr_mem (List.mem_of_getElem? (by rw [List.getElem?_take_of_lt z]; exact hq))
      rw [Int.add_emod, Int.mul_emod, q0, Int.zero_mul, Int.zero_emod, Int.add_zero, Int.emod_emod_of_dvd _ (Int.dvd_refl q)]
      exact c.at_ j q s z hq hs
    · obtain rfl : j = i := by omega
      rw [hp] at hq
      rw [hr] at hs
      cases hq
      cases hs
      rw [Int.add_emod, e1, ← Int.add_emod, show f + (r - f) = r by omega, Int.emod_eq_of_lt br.1 br.2]
end
end K
namespace K
open PySem PySem.Spec PyProof.Rows L2
abbrev N_check_length : List Str := ["row", "length"]
theorem sc_check_length : FnScope N_check_length ["row", "length"] (defScope s_check_length) := ⟨rfl, rfl, rfl, by decide +kernel, rfl, by decide +kernel, by decide +kernel⟩
section
variable {P : Program} {w : World} {K : PySem.W.Frag} {mg : Str → Option Value} {base : Heap}
def sp_checklength (K : PySem.W.Frag) (C : Addr) : Sp := fun vs H Q E => ∃ (l : Addr) (xs : List V) (n : Int), vs = [.ref l, .int n] ∧ Vb.SqA K H l xs ∧ ((xs.length : Int) = n → Q .non H) ∧ ((xs.length : Int) ≠ n → E (.ref C) none H)
theorem ok_checklength (T : Txt K mg) : FnOk P w K mg base (L2N.CX P w) 1 T.f_check_length T.fd_check_length ["row", "length"] (sp_checklength K T.C_WrongPlaces) := by
  refine Vb.okN T.d_check_length.F sc_check_length (fun vs H Q E h => ?_) (fun cdv A outer s H vs Q E hr h => ?_)
  · obtain ⟨l, xs, n, rfl, _⟩ := h
    rfl
  · obtain ⟨l, xs, n, rfl, hl, q1, q2⟩ := h
    refine ⟨_, (pss_one (ps_if (pt_cmpR op_ne (pe_callB Vb.call_len (by rfl) T.n_len (by decide +kernel) (pa_cons (pv 0) pa_nil)) (pv 1) (nomark _)) (pss_one (L2N.ps_raise rfl (L2N.takes_of rfl rfl rfl rfl) (Vb.pmk0 T.x_WrongPlaces rfl))) pss_nil)), ?_⟩
    (change (_ : L2.TS) _ ([some (.ref l), some (.int n)] : L2.St) _); try dsimp only [L2.cxOf, L2H.cxH]
    walk_at "rd"
    refine Vb.r_iteN (fun c => ?_) (fun c => ?_)
    · walk_at "rd"
      exact q2 c
    · walk_at "rd"
      exact q1 c
end
end K
namespace K
open PySem PySem.Spec PyProof.Rows L2
abbrev N_residues : List Str := ["count", "primes", "prime"]
theorem sc_residues : FnScope N_residues ["count", "primes"] (defScope s_residues) := ⟨rfl, rfl, rfl, by decide +kernel, rfl, by decide +kernel, by decide +kernel⟩
section
variable {P : Program} {w : World} {K : PySem.W.Frag} {mg : Str → Option Value} {base : Heap}
/-- ten to the 300 -/
def big300 : Int := 1000000000000000000000000000000000000000000000000000000000000000000000000000000000000000000000000000000000000000000000000000000000000000000000000000000000000000000000000000000000000000000000000000000000000000000000000000000000000000000000000000000000000000000000000000000000000000000000000000000000000
theorem big300_pow : big300 = (10 ^ Int.toNat 60) ^ Int.toNat 5 := by decide +kernel
theorem big300_ten : (10 : Int) ^ 300 = big300 := by decide +kernel
theorem big300_pos : (2 : Int) ^ 60 + 2 < big300 := by decide +kernel
def sp_residues (K : PySem.W.Frag) (NP R L O : Addr) : Sp := fun vs H Q E => ∃ (v : V) (d : PyData) (l : Addr) (xs : List V) (ds : List PyData), vs = [v, .ref l] ∧ Dp K H v d ∧ Vb.SqA K H l xs ∧ DpAll K H xs ds ∧
  (inRange 0 big300 d = false → E (.ref O) none H) ∧ (inRange 0 big300 d = true → (8 < xs.length → E (.ref L) none H) ∧
    (xs.length ≤ 8 → ∀ (i : Nat) (v : V) (d : PyData), xs[i]? = some v → ds[i]? = some d → (∀ (j : Nat) e, j < i → ds[j]? = some e → field e = true) → field d = false → ∀ dd : Addr, H dd = none → E (.ref NP) (some dd) (upd H dd (.xd [("value", v)]))) ∧
    (xs.length ≤ 8 → ∀ ns : List Int, xs = ns.map V.int → ds = ns.map PyData.int → (∀ n ∈ ns, Vb.Prm n ∧ n ≤ 101) → (¬ ns.Nodup → E (.ref R) none H) ∧
      (ns.Nodup → ∀ n : Int, d = .int n → ∀ (D : Addr) (H' : Hp), H D = none → Same H H' → H' D = some (.lst ((ns.map fun p => n % p).map V.int)) → Q (.ref D) H')))
theorem ok_residues (T : Txt K mg) : FnOk P w K mg base (L2N.CX P w) 5 T.f_residues T.fd_residues ["count", "primes"] (sp_residues K T.C_NotPrime T.C_Repeated T.C_TooLarge T.C_OutOfRange) := by
  have G_check_range := ok_checkrange (P := P) (w := w) (base := base) T
  have G_check_primes := ok_checkprimes (P := P) (w := w) (base := base) T
  refine Vb.okN T.d_residues.F sc_residues (fun vs H Q E h => ?_) (fun cdv A outer s H vs Q E hr h => ?_)
  · obtain ⟨v, d, l, xs, ds, rfl, _⟩ := h
    rfl
  · obtain ⟨v, d, l, xs, ds, rfl, hv, hl, hd, q1, q2⟩ := h
    refine ⟨_, (pss_cons (ps_expr (pe_callS G_check_range (hr.mono (by first | decide | omega)) (by rfl) T.d_check_range.g T.d_check_range.F.kp T.d_check_range.b (fun σ => L2N.passAt (L2N.takes_of rfl rfl rfl rfl) σ) (pa_cons (pv 0) (pa_cons pe_int (pa_cons (pe_glob (v := .int 1000000000000000000000000000000000000000000000000000000000000000000000000000000000000000000000000000000000000000000000000000000000000000000000000000000000000000000000000000000000000000000000000000000000000000000000000000000000000000000000000000000000000000000000000000000000000000000000000000000000000) (by rfl) T.c_TEN_TO_300 ⟨_, rfl⟩) pa_nil)))))
      (pss_cons (ps_expr (pe_callS G_check_primes (hr.mono (by first | decide | omega)) (by rfl) T.d_check_primes.g T.d_check_primes.F.kp T.d_check_primes.b (fun σ => L2N.passAt (L2N.takes_of rfl rfl rfl rfl) σ) (pa_cons (pv 1) pa_nil)))
      (pss_one (ps_ret (pe_lc (own := [("prime", 2)]) (g := gName 2) (tt := tYes) rfl sc_residues.nd (Vb.pi_seq (pv 1)) (blkOk_by (own := [("prime", 2)]) (N := N_residues) (sc := defScope s_residues) (by decide +kernel)) (fun _ _ _ _ _ => (pg_name (i := 2) sc_residues.nd rfl (by first | exact Or.inl rfl | exact Or.inr rfl))) (fun _ _ _ _ _ => pts_nil) (fun _ _ _ _ _ => (pe_op op_mod (pv 0) (pv 2)))))))), ?_⟩
    (change (_ : L2.TS) _ ([some (v), some (.ref l), none] : L2.St) _); try dsimp only [L2.cxOf, L2H.cxH]
    walk_at "rd"
    refine ⟨v, 0, big300, d, rfl, hv, fun f1 => ?_, fun f1 => q1 f1⟩
    obtain ⟨qL, qN, qG⟩ := q2 f1
    obtain ⟨n, rfl, n1, n2⟩ := inRange_of f1
    cases hv
    walk_at "rd"
    refine ⟨l, xs, ds, rfl, hl, hd, qL, qN, fun h8 ns e1 e2 e3 => ⟨(qG h8 ns e1 e2 e3).1, fun nd => ?_⟩⟩
    have q := (qG h8 ns e1 e2 e3).2 nd n rfl
    subst e1
    have ll : (ns.map V.int).length = ns.length := List.length_map ..
    walk_at "rd"
    have item : ∀ {D : Addr} {i : Nat} {p : Int} {G : Hp}, H D = none → ns[i]? = some p → Same H G → G D = some (.lst (((ns.take i).map fun p => n % p).map V.int)) → Same H (upd G D (.lst (((ns.take i).map fun p => n % p).map V.int ++ [.int (n % p)]))) ∧ (upd G D (.lst (((ns.take i).map fun p => n % p).map V.int ++ [.int (n % p)]))) D = some (.lst (((ns.take (i + 1)).map fun p => n % p).map V.int)) := fun {D i p G} nD hp e h => ⟨Vb.same_mut e nD, by
      rw [upd_same, List.take_add_one, hp, List.map_append, List.map_append]
      rfl⟩
    rcases hl with hl | hl
    · refine ⟨l, rfl, .inl ⟨⟨_, hl⟩, fun D nD => ?_⟩⟩
      refine Vb.lcw_list (xs := ns.map V.int) (fun i H' => Same H H' ∧ H' D = some (.lst (((ns.take i).map fun p => n % p).map V.int))) ⟨Vb.same_new nD, upd_same⟩ (fun x => rfl) (fun i H' _ c => c.1.seq hl) ?_ ?_
      · rintro i x H' hi ⟨e, h⟩
        obtain ⟨p, hp, rfl⟩ := Vb.getV' hi
        have p2 := (e3 p (List.mem_of_getElem? hp)).1.1
        have li := (List.getElem?_eq_some_iff.mp hp).1
        walk_at "rd"
        exact ⟨_, h, Vb.size_lt (by rw [List.length_map, List.length_map, List.length_take]; omega), item nD hp e h⟩
      rintro H' ⟨e, h⟩
      rw [ll, List.take_length] at h
      exact q D H' nD e h
    · refine ⟨l, rfl, .inr ⟨⟨_, hl⟩, fun D nD => ?_⟩⟩
      refine Vb.lcw_tup (xs := ns.map V.int) (fun i H' => Same H H' ∧ H' D = some (.lst (((ns.take i).map fun p => n % p).map V.int))) ⟨Vb.same_new nD, upd_same⟩ (fun x => rfl) (fun i H' _ c => Vb.sqT_same c.1 hl) ?_ ?_
      · rintro i x H' hi ⟨e, h⟩
        obtain ⟨p, hp, rfl⟩ := Vb.getV' hi
        have p2 := (e3 p (List.mem_of_getElem? hp)).1.1
        have li := (List.getElem?_eq_some_iff.mp hp).1
        walk_at "rd"
        exact ⟨_, h, Vb.size_lt (by rw [List.length_map, List.length_map, List.length_take]; omega), item nD hp e h⟩
      rintro H' ⟨e, h⟩
      rw [ll, List.take_length] at h
      exact q D H' nD e h
end
end K
namespace K
open PySem PySem.Spec PyProof.Rows L2

abbrev N_from_residues : List Str := ["primes", "remainders", "prime", "remainder", "found", "product", "missing"]
theorem sc_from_residues : FnScope N_from_residues ["primes", "remainders"] (defScope s_from_residues) := ⟨rfl, rfl, rfl, by decide +kernel, rfl, by decide +kernel, by decide +kernel⟩
section
variable {P : Program} {w : World} {K : PySem.W.Frag} {mg : Str → Option Value} {base : Heap}
theorem fields_rests {K : PySem.W.Frag} {H : Hp} : ∀ {ns : List Int} {es : List PyData} {ys : List V}, DpAll K H ys es → ns.length = es.length → (∀ (i : Nat) p e, ns[i]? = some p → es[i]? = some e → inField p e = true) → ∃ rs : List Int, ys = rs.map V.int ∧ es = rs.map PyData.int ∧ ∀ (i : Nat) p r, ns[i]? = some p → rs[i]? = some r → 0 ≤ r ∧ r < p
  | [], [], _, h, _, _ => by cases h; exact ⟨[], rfl, rfl, fun i p r h => by cases h⟩
  | [], _ :: _, _, _, l, _ => by cases l
  | _ :: _, [], _, _, l, _ => by cases l
  | n :: ns, e :: es, _, h, l, f => by
    cases h with
    | @cons y ys _ _ h1 h2 =>
      obtain ⟨rs, e1, e2, e3⟩ := fields_rests h2 (by simpa using l) fun i p e a b => f (i + 1) p e (by simpa using a) (by simpa using b)
      obtain ⟨r, rfl, hr⟩ := inField_of (f 0 n e rfl rfl)
      cases h1
      refine ⟨r :: rs, by rw [e1]; rfl, by rw [e2]; rfl, fun i p s a b => ?_⟩
      cases i with
      | zero =>
        cases a
        cases b
        exact hr
      | succ i => exact e3 i p s (by simpa using a) (by simpa using b)
def sp_fromres (K : PySem.W.Frag) (NP N R L W : Addr) : Sp := fun vs H Q E => ∃ (l m : Addr) (xs ys : List V) (ds es : List PyData), vs = [.ref l, .ref m] ∧ Vb.SqA K H l xs ∧ DpAll K H xs ds ∧ Vb.SqA K H m ys ∧ DpAll K H ys es ∧
  (8 < xs.length → E (.ref L) none H) ∧
  (xs.length ≤ 8 → ∀ (i : Nat) (v : V) (d : PyData), xs[i]? = some v → ds[i]? = some d → (∀ (j : Nat) e, j < i → ds[j]? = some e → field e = true) → field d = false → ∀ dd : Addr, H dd = none → E (.ref NP) (some dd) (upd H dd (.xd [("value", v)]))) ∧
  (xs.length ≤ 8 → ∀ ns : List Int, xs = ns.map V.int → ds = ns.map PyData.int → (∀ n ∈ ns, Vb.Prm n ∧ n ≤ 101) → (¬ ns.Nodup → E (.ref R) none H) ∧
    (ns.Nodup → (ys.length ≠ ns.length → E (.ref W) none H) ∧ (ys.length = ns.length →
      (∀ (i : Nat) (p : Int) (v : V) (d : PyData), ns[i]? = some p → ys[i]? = some v → es[i]? = some d → (∀ (j : Nat) q e, j < i → ns[j]? = some q → es[j]? = some e → inField q e = true) → inField p d = false → ∀ (H1 : Hp) (dd : Addr), Same H H1 → H1 dd = none → E (.ref N) (some dd) (upd H1 dd (.xd [("value", v)]))) ∧
      (∀ rs : List Int, ys = rs.map V.int → es = rs.map PyData.int → (∀ (i : Nat) p r, ns[i]? = some p → rs[i]? = some r → 0 ≤ r ∧ r < p) → ∀ (f : Int) (H' : Hp), Same H H' → Crt ns rs ns.length f → Q (.int f) H'))))
theorem ok_fromres (T : Txt K mg) : FnOk P w K mg base (L2N.CX P w) 6 T.f_from_residues T.fd_from_residues ["primes", "remainders"] (sp_fromres K T.C_NotPrime T.C_NotInField T.C_Repeated T.C_TooLarge T.C_WrongPlaces) := by
  have G_check_primes := ok_checkprimes (P := P) (w := w) (base := base) T
  have G_check_length := ok_checklength (P := P) (w := w) (base := base) T
  have G_check_number := ok_checknum (P := P) (w := w) (base := base) T
  have G_Field___init__ := ok_finit (P := P) (w := w) (base := base) T
  have G_Field_divide := ok_fdiv (P := P) (w := w) (base := base) T
  refine Vb.okN T.d_from_residues.F sc_from_residues (fun vs H Q E h => ?_) (fun cdv A outer s H vs Q E hr h => ?_)
  · obtain ⟨l, m, xs, ys, ds, es, rfl, _⟩ := h
    rfl
  · obtain ⟨l, m, xs, ys, ds, es, rfl, hl, hd, hm, he, qL, qN, qG⟩ := h
    refine ⟨_, (pss_cons (ps_expr (pe_callS G_check_primes (hr.mono (by first | decide | omega)) (by rfl) T.d_check_primes.g T.d_check_primes.F.kp T.d_check_primes.b (fun σ => L2N.passAt (L2N.takes_of rfl rfl rfl rfl) σ) (pa_cons (pv 0) pa_nil)))
      (pss_cons (ps_expr (pe_callS G_check_length (hr.mono (by first | decide | omega)) (by rfl) T.d_check_length.g T.d_check_length.F.kp T.d_check_length.b (fun σ => L2N.passAt (L2N.takes_of rfl rfl rfl rfl) σ) (pa_cons (pv 1) (pa_cons (pe_callB Vb.call_len (by rfl) T.n_len (by decide +kernel) (pa_cons (pv 0) pa_nil)) pa_nil))))
      (pss_cons (ps_for (L2.passes_of rfl) rfl (Vb.pi_zipB (by rfl) T.n_zip (pa_cons (pv 0) (pa_cons (pv 1) pa_nil))) (pg_tup (n := 2) rfl (pgs_cons (pg_name (i := 2) sc_from_residues.nd rfl (by first | exact Or.inl rfl | exact Or.inr rfl)) (pgs_cons (pg_name (i := 3) sc_from_residues.nd rfl (by first | exact Or.inl rfl | exact Or.inr rfl)) pgs_nil)))
        (pss_one (ps_expr (pe_callS G_check_number (hr.mono (by first | decide | omega)) (by rfl) T.d_check_number.g T.d_check_number.F.kp T.d_check_number.b (fun σ => L2N.passAt (L2N.takes_of rfl rfl rfl rfl) σ) (pa_cons (pv 2) (pa_cons (pv 3) pa_nil))))))
      (pss_cons (ps_set (i := 4) sc_from_residues.nd rfl (by first | exact Or.inl rfl | exact Or.inr rfl) pe_int)
      (pss_cons (ps_set (i := 5) sc_from_residues.nd rfl (by first | exact Or.inl rfl | exact Or.inr rfl) pe_int)
      (pss_cons (ps_for (L2.passes_of rfl) rfl (Vb.pi_zipB (by rfl) T.n_zip (pa_cons (pv 0) (pa_cons (pv 1) pa_nil))) (pg_tup (n := 2) rfl (pgs_cons (pg_name (i := 2) sc_from_residues.nd rfl (by first | exact Or.inl rfl | exact Or.inr rfl)) (pgs_cons (pg_name (i := 3) sc_from_residues.nd rfl (by first | exact Or.inl rfl | exact Or.inr rfl)) pgs_nil)))
        (pss_cons (ps_set (i := 6) sc_from_residues.nd rfl (by first | exact Or.inl rfl | exact Or.inr rfl) (pe_op op_mod (pe_op op_sub (pv 3) (pv 4)) (pv 2)))
      (pss_cons (ps_set (i := 4) sc_from_residues.nd rfl (by first | exact Or.inl rfl | exact Or.inr rfl) (pe_op op_add (pv 4) (pe_op op_mul (pv 5) (Vb.pe_methP (Vb.pe_makeP T.mk_Field G_Field___init__ (hr.mono (by first | decide | omega)) (by rfl) T.g_Field T.d_Field___init__.b (fun σ => L2N.passAt (L2N.takes_of rfl rfl rfl rfl) σ) (pa_cons (pv 2) pa_nil)) T.c_Field T.m_Field_divide G_Field_divide (hr.mono (by first | decide | omega)) T.d_Field_divide.b (fun σ => L2N.passAt (L2N.takes_of rfl rfl rfl rfl) σ) (pa_cons (pv 6) (pa_cons (pe_op op_mod (pv 5) (pv 2)) pa_nil))))))
      (pss_one (ps_set (i := 5) sc_from_residues.nd rfl (by first | exact Or.inl rfl | exact Or.inr rfl) (pe_op op_mul (pv 5) (pv 2)))))))
      (pss_one (ps_ret (pv 4))))))))), ?_⟩
    (change (_ : L2.TS) _ ([some (.ref l), some (.ref m), none, none, none, none, none] : L2.St) _); try dsimp only [L2.cxOf, L2H.cxH]
    walk_at "rd"
    refine ⟨l, xs, ds, rfl, hl, hd, qL, qN, fun h8 ns e1 e2 e3 => ⟨(qG h8 ns e1 e2 e3).1, fun nd => ?_⟩⟩
    obtain ⟨qW, qO⟩ := (qG h8 ns e1 e2 e3).2 nd
    clear qG qL qN
    subst e1
    have ll : (ns.map V.int).length = ns.length := List.length_map ..
    obtain ⟨pb, hlb⟩ := Vb.sqB_of hl
    obtain ⟨qb, hmb⟩ := Vb.sqB_of hm
    walk_at "rd"
    refine ⟨m, ys, ((ns.map V.int).length : Nat), rfl, hm, fun hle => ?_, fun hle => qW (by omega)⟩
    have hle : ys.length = ns.length := by omega
    obtain ⟨qF, qQ⟩ := qO hle
    have lel := Vb.dpa_len he
    walk_at "rd"
    refine Vb.r_iZipB ?_
    walk_at "rd"
    refine ⟨l, m, _, ys, pb, qb, rfl, hlb, hmb, ?_⟩
    refine Vb.lp_zipB (by rw [ll]; exact hle.symm) (fun i σ H' => Same H H' ∧ (∀ (j : Nat) p e, j < i → ns[j]? = some p → es[j]? = some e → inField p e = true) ∧ ∃ y2 y3 y4 y5 y6, σ = [some (.ref l), some (.ref m), y2, y3, y4, y5, y6]) ⟨Same.refl _, fun j p e h => by omega, none, none, none, none, none, rfl⟩ (fun i σ' H' _ h => ⟨hlb.same h.1, hmb.same h.1⟩) ?_ ?_
    · rintro i x y T σ H' hx hy ⟨e, hk, y2, y3, y4, y5, y6, rfl⟩ nT
      obtain ⟨p, hp, rfl⟩ := Vb.getV' hx
      obtain ⟨d, hd1, hd2⟩ := Vb.dpa_get he hy
      have eT := e.trans (Vb.same_new (o := .tup [.int p, y]) nT)
      refine Vb.r_gT2 (Vb.st_of upd_same) ?_
      generalize upd H' T _ = H2 at eT ⊢
      walk_at "rd"
      refine ⟨p, y, d, rfl, Vb.dp_same eT _ _ hd2, fun hf => ?_, fun hf dd nd => qF i p y d hp hy hd1 hk hf H2 dd eT nd⟩
      walk_at "rd"
      refine ⟨eT, fun j q e' hj hq he' => ?_, _, _, _, _, _, rfl⟩
      by_cases z : j < i
      · exact hk j q e' z hq he'
      · obtain rfl : j = i := by omega
        rw [hp] at hq
        rw [hd1] at he'
        cases hq
        cases he'
        exact hf
    rintro σ H2 ⟨e2', hk, y2, y3, y4, y5, y6, rfl⟩
    obtain ⟨rs, r1, r2, r3⟩ := fields_rests he (by omega) fun i p e a b => hk i p e (by rw [ll]; exact (List.getElem?_eq_some_iff.mp a).1) a b
    have q := qQ rs r1 r2 r3
    subst r1
    walk_at "rd"
    refine Vb.r_iZipB ?_
    walk_at "rd"
    refine ⟨l, m, _, _, pb, qb, rfl, hlb.same e2', hmb.same e2', ?_⟩
    refine Vb.lp_zipB (by omega) (fun i σ H' => Same H H' ∧ ∃ f, Crt ns rs i f ∧ ∃ y2 y3 y6, σ = [some (.ref l), some (.ref m), y2, y3, some (.int f), some (.int (pr (ns.take i))), y6]) ⟨e2', 0, Crt.start, _, _, _, rfl⟩ (fun i σ' H' _ h => ⟨hlb.same h.1, hmb.same h.1⟩) ?_ ?_
    · rintro i x y T σ H' hx hy ⟨e, f, hc, y2, y3, y6, rfl⟩ nT
      obtain ⟨p, hp, rfl⟩ := Vb.getV' hx
      obtain ⟨r, hr, rfl⟩ := Vb.getV' hy
      have pp := e3 p (List.mem_of_getElem? hp)
      have p2 := pp.1.1
      have rb := r3 i p r hp hr
      obtain ⟨⟨y0, y1⟩, hs⟩ := Crt.step e3 nd hc hp hr rb
      have eT := e.trans (Vb.same_new (o := .tup [.int p, .int r]) nT)
      refine Vb.r_gT2 (Vb.st_of upd_same) ?_
      generalize upd H' T _ = H2 at eT ⊢
      walk_at "rd"
      refine use_mkfield pp.1 pp.2 (fun F H3 nF e3' hF => ?_)
      obtain ⟨dyF, hF'⟩ := id hF
      refine ⟨F, dyF, _, rfl, hF', rfl, ?_⟩
      walk_at "rd"
      have xb : 0 ≤ (r - f) % p ∧ (r - f) % p < p := ⟨Int.emod_nonneg _ (by omega), Int.emod_lt_of_pos _ (by omega)⟩
      have yb : 0 ≤ pr (ns.take i) % p ∧ pr (ns.take i) % p < p := ⟨by omega, y1⟩
      refine ⟨F, p, _, _, .int _, .int _, rfl, hF, ⟨p2, pp.2⟩, .int _, .int _, fun x y H4 ex ey _ _ e4 => ?_, fun hf => absurd hf (by rw [inField_int.mpr xb]; decide), fun _ hf => absurd hf (by rw [inField_int.mpr yb]; decide)⟩
      cases ex
      cases ey
      refine ⟨fun z => by omega, fun _ => ?_⟩
      have hc' := hs _ rfl
      have db : 0 ≤ (r - f) % p * ((pr (ns.take i) % p) ^ (p - 2).toNat % p) % p ∧ (r - f) % p * ((pr (ns.take i) % p) ^ (p - 2).toNat % p) % p < p := ⟨Int.emod_nonneg _ (by omega), Int.emod_lt_of_pos _ (by omega)⟩
      have p3 := pp.2
      generalize (r - f) % p * ((pr (ns.take i) % p) ^ (p - 2).toNat % p) % p = d at *
      walk_at "rd"
      rw [← pr_take hp]
      exact ⟨eT.trans (e3'.trans e4), _, hc', _, _, _, rfl⟩
    rintro σ H3 ⟨e, f, hc, y2, y3, y6, rfl⟩
    rw [ll] at hc
    walk_at "rd"
    exact q f H3 e hc
end
end K
namespace K
open PySem PySem.Spec PyProof.Rows L2
abbrev N__law_any_count : List Str := ["store"]
theorem sc__law_any_count : FnScope N__law_any_count ["store"] (defScope s__law_any_count) := ⟨rfl, rfl, rfl, by decide +kernel, rfl, by decide +kernel, by decide +kernel⟩
section
variable {P : Program} {w : World} {K : PySem.W.Frag} {mg : Str → Option Value} {base : Heap}
def sp_anycount : Sp := fun vs H Q _ => ∃ (st : Addr), vs = [.ref st] ∧ Vb.StoreAt H st ∧ ∀ (n : Int) (H' : Hp), 0 ≤ n ∧ n ≤ big300 → Vb.Fr st H H' → Vb.StoreAt H' st → Q (.int n) H'
theorem ok_anycount (T : Txt K mg) : FnOk P w K mg base (L2N.CX P w) 5 T.f__law_any_count T.fd__law_any_count ["store"] sp_anycount := by
  have G__law_take := ok_take (P := P) (w := w) (base := base) T
  have G__law_edge := ok_edge (P := P) (w := w) (base := base) T
  have G__law_big := ok_big (P := P) (w := w) (base := base) T
  refine Vb.okN T.d__law_any_count.F sc__law_any_count (fun vs H Q E h => ?_) (fun cdv A outer s H vs Q E hr h => ?_)
  · obtain ⟨a, rfl, _⟩ := h
    rfl
  · obtain ⟨st, rfl, hS, q⟩ := h
    have bp := big300_pos
    refine ⟨_, (pss_cons (ps_if (pt_cmpR op_eq (pe_callS G__law_take (hr.mono (by first | decide | omega)) (by rfl) T.d__law_take.g T.d__law_take.F.kp T.d__law_take.b (fun σ => L2N.passAt (L2N.takes_of rfl rfl rfl rfl) σ) (pa_cons (pv 0) (pa_cons pe_int pa_nil))) pe_int (nomark _)) (pss_one (ps_ret (pe_op Vb.op_powB (pe_op Vb.op_powB pe_int pe_int) pe_int))) pss_nil)
      (pss_cons (ps_if (pt_cmpR op_eq (pe_callS G__law_take (hr.mono (by first | decide | omega)) (by rfl) T.d__law_take.g T.d__law_take.F.kp T.d__law_take.b (fun σ => L2N.passAt (L2N.takes_of rfl rfl rfl rfl) σ) (pa_cons (pv 0) (pa_cons pe_int pa_nil))) pe_int (nomark _)) (pss_one (ps_ret (pe_callS G__law_edge (hr.mono (by first | decide | omega)) (by rfl) T.d__law_edge.g T.d__law_edge.F.kp T.d__law_edge.b (fun σ => L2N.passAt (L2N.takes_of rfl rfl rfl rfl) σ) (pa_cons (pv 0) (pa_cons pe_int (pa_cons pe_int pa_nil)))))) pss_nil)
      (pss_one (ps_ret (pe_callS G__law_big (hr.mono (by first | decide | omega)) (by rfl) T.d__law_big.g T.d__law_big.F.kp T.d__law_big.b (fun σ => L2N.passAt (L2N.takes_of rfl rfl rfl rfl) σ) (pa_cons (pv 0) (pa_cons pe_int pa_nil))))))), ?_⟩
    (change (_ : L2.TS) _ ([some (.ref st)] : L2.St) _); try dsimp only [L2.cxOf, L2H.cxH]
    walk_at "rd"
    refine use_take hS (by decide) fun t H1 _ _ _ f1 S1 => ?_
    walk_at "rd"
    refine Vb.r_ite (fun c => ?_) (fun c => ?_)
    · walk_at "rd"
      rw [← big300_pow]
      exact q _ _ ⟨by omega, Int.le_refl _⟩ f1 S1
    walk_at "rd"
    refine use_take S1 (by decide) fun u H2 _ _ _ f2 S2 => ?_
    walk_at "rd"
    refine Vb.r_ite (fun c => ?_) (fun c => ?_)
    · walk_at "rd"
      refine use_edge S2 (by decide) fun v H3 v1 v2 _ f3 S3 => ?_
      have := v2 (by decide)
      exact q _ _ ⟨v1, by omega⟩ (f1.trans (f2.trans f3)) S3
    walk_at "rd"
    refine use_big S2 (by decide) fun v H3 v1 v2 f3 S3 => ?_
    have v3 : v < big300 := by rw [← big300_ten]; exact v2
    exact q _ _ ⟨v1, by omega⟩ (f1.trans (f2.trans f3)) S3
end
end K
namespace K
open PySem PySem.Spec PyProof.Rows L2






abbrev N__law_class_names : List Str := ["error", "names"]
theorem sc__law_class_names : FnScope N__law_class_names ["error"] (defScope s__law_class_names) := ⟨rfl, rfl, rfl, by decide +kernel, rfl, by decide +kernel, by decide +kernel⟩
section
variable {P : Program} {w : World} {K : PySem.W.Frag} {mg : Str → Option Value} {base : Heap}
/-- the names of the classes, of six asked -/
def cnames (b1 b2 b3 b4 b5 b6 : Bool) : List Str := ((((((if b1 then [Str.ofString "TooLarge"] else []) ++ (if b2 then [Str.ofString "Repeated"] else [])) ++ (if b3 then [Str.ofString "NotPrime"] else [])) ++ (if b4 then [Str.ofString "OutOfRange"] else [])) ++ (if b5 then [Str.ofString "WrongPlaces"] else [])) ++ (if b6 then [Str.ofString "NotInField"] else []))
def sp_classnames (K : PySem.W.Frag) (C1 C2 C3 C4 C5 C6 : Addr) : Addr → Value → Option Addr → Sp := fun a cls d vs H Q _ => ∃ (D : Addr) (b1 b2 b3 b4 b5 b6 : Bool), vs = [.ref a] ∧ cls = .ref D ∧ Vb.Xk K D ∧ (d = none ∨ ∃ dd fs, d = some dd ∧ H dd = some (.xd fs)) ∧
  PySem.W.kitOne K (.ref D) (.ref C1) = some b1 ∧ PySem.W.kitOne K (.ref D) (.ref C2) = some b2 ∧ PySem.W.kitOne K (.ref D) (.ref C3) = some b3 ∧ PySem.W.kitOne K (.ref D) (.ref C4) = some b4 ∧ PySem.W.kitOne K (.ref D) (.ref C5) = some b5 ∧ PySem.W.kitOne K (.ref D) (.ref C6) = some b6 ∧
  ∀ (l : Addr) (H' : Hp), H l = none → Same H H' → H' l = some (.lst ((cnames b1 b2 b3 b4 b5 b6).map V.str)) → Q (.ref l) H'
theorem ok_classnames (T : Txt K mg) : Vb.FnE P w K mg base 1 T.f__law_class_names T.fd__law_class_names ["error"] (sp_classnames K T.C_TooLarge T.C_Repeated T.C_NotPrime T.C_OutOfRange T.C_WrongPlaces T.C_NotInField) := by
  refine Vb.okE T.d__law_class_names.F sc__law_class_names (fun {a cls d vs H Q E} h => ?_) (fun cdv A outer s H vs Q E e cls d hz hf hr h => ?_)
  · obtain ⟨D, b1, b2, b3, b4, b5, b6, rfl, _⟩ := h
    rfl
  · obtain ⟨ea, oe⟩ := e
    obtain ⟨D, b1, b2, b3, b4, b5, b6, rfl, rfl, xk, hd, kk⟩ := h
    have pin : (ea, oe) ∈ (L2H.cxH CX0 P w K mg base N__law_class_names "_law_class_names" (defScope s__law_class_names) T.f__law_class_names cdv A outer s H E (ea, oe)).pn := List.mem_singleton.mpr rfl
    refine ⟨_, (pss_cons (ps_set (i := 1) sc__law_class_names.nd rfl (by first | exact Or.inl rfl | exact Or.inr rfl) (pe_lst pa_nil))
      (Evl.pss_cut (ps_if (pt_val (pe_callB (Vb.call_isP pin xk hz hf) (by rfl) T.n_isinstance (by decide +kernel) (pa_cons (pv 0) (pa_cons (pe_glob (v := .ref T.C_TooLarge) (by rfl) T.x_TooLarge.g rfl) pa_nil)))) (pss_one (ps_expr (pe_bm PySem.F.plainAttrs_list PySem.F.slot_list_append PySem.F.type_list_append mt_append (pv 1) (pa_cons pe_str pa_nil)))) pss_nil)
      (Evl.pss_cut (ps_if (pt_val (pe_callB (Vb.call_isP pin xk hz hf) (by rfl) T.n_isinstance (by decide +kernel) (pa_cons (pv 0) (pa_cons (pe_glob (v := .ref T.C_Repeated) (by rfl) T.x_Repeated.g rfl) pa_nil)))) (pss_one (ps_expr (pe_bm PySem.F.plainAttrs_list PySem.F.slot_list_append PySem.F.type_list_append mt_append (pv 1) (pa_cons pe_str pa_nil)))) pss_nil)
      (Evl.pss_cut (ps_if (pt_val (pe_callB (Vb.call_isP pin xk hz hf) (by rfl) T.n_isinstance (by decide +kernel) (pa_cons (pv 0) (pa_cons (pe_glob (v := .ref T.C_NotPrime) (by rfl) T.i_NotPrime.g rfl) pa_nil)))) (pss_one (ps_expr (pe_bm PySem.F.plainAttrs_list PySem.F.slot_list_append PySem.F.type_list_append mt_append (pv 1) (pa_cons pe_str pa_nil)))) pss_nil)
      (Evl.pss_cut (ps_if (pt_val (pe_callB (Vb.call_isP pin xk hz hf) (by rfl) T.n_isinstance (by decide +kernel) (pa_cons (pv 0) (pa_cons (pe_glob (v := .ref T.C_OutOfRange) (by rfl) T.x_OutOfRange.g rfl) pa_nil)))) (pss_one (ps_expr (pe_bm PySem.F.plainAttrs_list PySem.F.slot_list_append PySem.F.type_list_append mt_append (pv 1) (pa_cons pe_str pa_nil)))) pss_nil)
      (Evl.pss_cut (ps_if (pt_val (pe_callB (Vb.call_isP pin xk hz hf) (by rfl) T.n_isinstance (by decide +kernel) (pa_cons (pv 0) (pa_cons (pe_glob (v := .ref T.C_WrongPlaces) (by rfl) T.x_WrongPlaces.g rfl) pa_nil)))) (pss_one (ps_expr (pe_bm PySem.F.plainAttrs_list PySem.F.slot_list_append PySem.F.type_list_append mt_append (pv 1) (pa_cons pe_str pa_nil)))) pss_nil)
      (Evl.pss_cut (ps_if (pt_val (pe_callB (Vb.call_isP pin xk hz hf) (by rfl) T.n_isinstance (by decide +kernel) (pa_cons (pv 0) (pa_cons (pe_glob (v := .ref T.C_NotInField) (by rfl) T.i_NotInField.g rfl) pa_nil)))) (pss_one (ps_expr (pe_bm PySem.F.plainAttrs_list PySem.F.slot_list_append PySem.F.type_list_append mt_append (pv 1) (pa_cons pe_str pa_nil)))) pss_nil)
      (pss_one (ps_ret (pv 1)))))))))), ?_⟩
    (change (_ : L2.TS) _ ([some (.ref ea), none] : L2.St) _); try dsimp only [L2.cxOf, L2H.cxH]
    walk_at "rd"
    have step : ∀ {xs ys : List Str} {N : Addr} {G : Hp} {s : Str}, H N = none → Same H G → G N = some (.lst (xs.map V.str)) → Same H (upd G N (.lst (xs.map V.str ++ [.str s]))) ∧ (upd G N (.lst (xs.map V.str ++ [.str s]))) N = some (.lst ((xs ++ [s]).map V.str)) := fun {xs ys N G s} n e h => ⟨Vb.same_mut e n, by rw [upd_same, List.map_append]; rfl⟩
    refine ⟨Vb.size_ok (by show 0 ≤ 16777216; decide), fun N nN => ?_⟩
    have e0 := Vb.same_new (o := .lst []) nN
    have h0 : (upd H N (.lst [])) N = some (.lst (([] : List Str).map V.str)) := upd_same
    generalize upd H N (.lst []) = G0 at e0 h0 ⊢
    refine Vb.r_cut (fun σ' G => Same H G ∧ G N = some (.lst ((if b1 then [Str.ofString "TooLarge"] else []).map V.str)) ∧ σ' = [some (.ref ea), some (.ref N)]) ?_ ?_
    · have hd' : d = none ∨ ∃ dd fs, d = some dd ∧ G0 dd = some (.xd fs) := hd.imp id fun ⟨dd, fs, e, h⟩ => ⟨dd, fs, e, e0 _ _ h⟩
      walk_at "rd"
      refine Vb.r_isXr kk.1 hd' ?_
      walk_at "rd"
      cases b1 with
      | false =>
        walk_at "rd"
        exact ⟨e0, h0, rfl⟩
      | true =>
        walk_at "rd"
        try refine Vb.r_app h0 (Vb.size_lt (by rw [List.length_map]; (try cases b1) <;> (try cases b2) <;> (try cases b3) <;> (try cases b4) <;> (try cases b5) <;> decide)) ?_
        obtain ⟨z1, z2⟩ := step (s := Str.ofString "TooLarge") (ys := []) nN e0 h0
        exact ⟨z1, z2, rfl⟩
    rintro σ' G1 ⟨e1, h1, rfl⟩
    refine Vb.r_cut (fun σ' G => Same H G ∧ G N = some (.lst (((if b1 then [Str.ofString "TooLarge"] else []) ++ (if b2 then [Str.ofString "Repeated"] else [])).map V.str)) ∧ σ' = [some (.ref ea), some (.ref N)]) ?_ ?_
    · have hd' : d = none ∨ ∃ dd fs, d = some dd ∧ G1 dd = some (.xd fs) := hd.imp id fun ⟨dd, fs, e, h⟩ => ⟨dd, fs, e, e1 _ _ h⟩
      walk_at "rd"
      refine Vb.r_isXr kk.2.1 hd' ?_
      walk_at "rd"
      cases b2 with
      | false =>
        walk_at "rd"
        exact ⟨e1, h1.trans (congrArg (fun z => some (HO.lst (List.map V.str z))) (List.append_nil _).symm), rfl⟩
      | true =>
        walk_at "rd"
        try refine Vb.r_app h1 (Vb.size_lt (by rw [List.length_map]; (try cases b1) <;> (try cases b2) <;> (try cases b3) <;> (try cases b4) <;> (try cases b5) <;> decide)) ?_
        obtain ⟨z1, z2⟩ := step (s := Str.ofString "Repeated") (ys := []) nN e1 h1
        exact ⟨z1, z2, rfl⟩
    rintro σ' G2 ⟨e2, h2, rfl⟩
    refine Vb.r_cut (fun σ' G => Same H G ∧ G N = some (.lst ((((if b1 then [Str.ofString "TooLarge"] else []) ++ (if b2 then [Str.ofString "Repeated"] else [])) ++ (if b3 then [Str.ofString "NotPrime"] else [])).map V.str)) ∧ σ' = [some (.ref ea), some (.ref N)]) ?_ ?_
    · have hd' : d = none ∨ ∃ dd fs, d = some dd ∧ G2 dd = some (.xd fs) := hd.imp id fun ⟨dd, fs, e, h⟩ => ⟨dd, fs, e, e2 _ _ h⟩
      walk_at "rd"
      refine Vb.r_isXr kk.2.2.1 hd' ?_
      walk_at "rd"
      cases b3 with
      | false =>
        walk_at "rd"
        exact ⟨e2, h2.trans (congrArg (fun z => some (HO.lst (List.map V.str z))) (List.append_nil _).symm), rfl⟩
      | true =>
        walk_at "rd"
        try refine Vb.r_app h2 (Vb.size_lt (by rw [List.length_map]; (try cases b1) <;> (try cases b2) <;> (try cases b3) <;> (try cases b4) <;> (try cases b5) <;> decide)) ?_
        obtain ⟨z1, z2⟩ := step (s := Str.ofString "NotPrime") (ys := []) nN e2 h2
        exact ⟨z1, z2, rfl⟩
    rintro σ' G3 ⟨e3, h3, rfl⟩
    refine Vb.r_cut (fun σ' G => Same H G ∧ G N = some (.lst (((((if b1 then [Str.ofString "TooLarge"] else []) ++ (if b2 then [Str.ofString "Repeated"] else [])) ++ (if b3 then [Str.ofString "NotPrime"] else [])) ++ (if b4 then [Str.ofString "OutOfRange"] else [])).map V.str)) ∧ σ' = [some (.ref ea), some (.ref N)]) ?_ ?_
    · have hd' : d = none ∨ ∃ dd fs, d = some dd ∧ G3 dd = some (.xd fs) := hd.imp id fun ⟨dd, fs, e, h⟩ => ⟨dd, fs, e, e3 _ _ h⟩
      walk_at "rd"
      refine Vb.r_isXr kk.2.2.2.1 hd' ?_
      walk_at "rd"
      cases b4 with
      | false =>
        walk_at "rd"
        exact ⟨e3, h3.trans (congrArg (fun z => some (HO.lst (List.map V.str z))) (List.append_nil _).symm), rfl⟩
      | true =>
        walk_at "rd"
        try refine Vb.r_app h3 (Vb.size_lt (by rw [List.length_map]; (try cases b1) <;> (try cases b2) <;> (try cases b3) <;> (try cases b4) <;> (try cases b5) <;> decide)) ?_
        obtain ⟨z1, z2⟩ := step (s := Str.ofString "OutOfRange") (ys := []) nN e3 h3
        exact ⟨z1, z2, rfl⟩
    rintro σ' G4 ⟨e4, h4, rfl⟩
    refine Vb.r_cut (fun σ' G => Same H G ∧ G N = some (.lst ((((((if b1 then [Str.ofString "TooLarge"] else []) ++ (if b2 then [Str.ofString "Repeated"] else [])) ++ (if b3 then [Str.ofString "NotPrime"] else [])) ++ (if b4 then [Str.ofString "OutOfRange"] else [])) ++ (if b5 then [Str.ofString "WrongPlaces"] else [])).map V.str)) ∧ σ' = [some (.ref ea), some (.ref N)]) ?_ ?_
    · have hd' : d = none ∨ ∃ dd fs, d = some dd ∧ G4 dd = some (.xd fs) := hd.imp id fun ⟨dd, fs, e, h⟩ => ⟨dd, fs, e, e4 _ _ h⟩
      walk_at "rd"
      refine Vb.r_isXr kk.2.2.2.2.1 hd' ?_
      walk_at "rd"
      cases b5 with
      | false =>
        walk_at "rd"
        exact ⟨e4, h4.trans (congrArg (fun z => some (HO.lst (List.map V.str z))) (List.append_nil _).symm), rfl⟩
      | true =>
        walk_at "rd"
        try refine Vb.r_app h4 (Vb.size_lt (by rw [List.length_map]; (try cases b1) <;> (try cases b2) <;> (try cases b3) <;> (try cases b4) <;> (try cases b5) <;> decide)) ?_
        obtain ⟨z1, z2⟩ := step (s := Str.ofString "WrongPlaces") (ys := []) nN e4 h4
        exact ⟨z1, z2, rfl⟩
    rintro σ' G5 ⟨e5, h5, rfl⟩
    refine Vb.r_cut (fun σ' G => Same H G ∧ G N = some (.lst (((((((if b1 then [Str.ofString "TooLarge"] else []) ++ (if b2 then [Str.ofString "Repeated"] else [])) ++ (if b3 then [Str.ofString "NotPrime"] else [])) ++ (if b4 then [Str.ofString "OutOfRange"] else [])) ++ (if b5 then [Str.ofString "WrongPlaces"] else [])) ++ (if b6 then [Str.ofString "NotInField"] else [])).map V.str)) ∧ σ' = [some (.ref ea), some (.ref N)]) ?_ ?_
    · have hd' : d = none ∨ ∃ dd fs, d = some dd ∧ G5 dd = some (.xd fs) := hd.imp id fun ⟨dd, fs, e, h⟩ => ⟨dd, fs, e, e5 _ _ h⟩
      walk_at "rd"
      refine Vb.r_isXr kk.2.2.2.2.2.1 hd' ?_
      walk_at "rd"
      cases b6 with
      | false =>
        walk_at "rd"
        exact ⟨e5, h5.trans (congrArg (fun z => some (HO.lst (List.map V.str z))) (List.append_nil _).symm), rfl⟩
      | true =>
        walk_at "rd"
        try refine Vb.r_app h5 (Vb.size_lt (by rw [List.length_map]; (try cases b1) <;> (try cases b2) <;> (try cases b3) <;> (try cases b4) <;> (try cases b5) <;> decide)) ?_
        obtain ⟨z1, z2⟩ := step (s := Str.ofString "NotInField") (ys := []) nN e5 h5
        exact ⟨z1, z2, rfl⟩
    rintro σ' G6 ⟨e6, h6, rfl⟩
    walk_at "rd"
    exact kk.2.2.2.2.2.2 N _ nN e6 h6
end
end K
namespace K
open PySem PySem.Spec PyProof.Rows L2
abbrev N__law_asked : List Str := ["which", "first", "second"]
theorem sc__law_asked : FnScope N__law_asked ["which", "first", "second"] (defScope s__law_asked) := ⟨rfl, rfl, rfl, by decide +kernel, rfl, by decide +kernel, by decide +kernel⟩
section
variable {P : Program} {w : World} {K : PySem.W.Frag} {mg : Str → Option Value} {base : Heap}
def sp_lawasked (K : PySem.W.Frag) (NP N R L W O : Addr) : Sp := fun vs H Q E => ∃ (k : Int) (a b : V), vs = [.int k, a, b] ∧ (k = 0 → sp_residues K NP R L O [a, b] H Q E) ∧ (k ≠ 0 → sp_fromres K NP N R L W [a, b] H Q E)
theorem ok_lawasked (T : Txt K mg) : FnOk P w K mg base (L2N.CX P w) 7 T.f__law_asked T.fd__law_asked ["which", "first", "second"] (sp_lawasked K T.C_NotPrime T.C_NotInField T.C_Repeated T.C_TooLarge T.C_WrongPlaces T.C_OutOfRange) := by
  have G_residues := ok_residues (P := P) (w := w) (base := base) T
  have G_from_residues := ok_fromres (P := P) (w := w) (base := base) T
  refine Vb.okN T.d__law_asked.F sc__law_asked (fun vs H Q E h => ?_) (fun cdv A outer s H vs Q E hr h => ?_)
  · obtain ⟨k, a, b, rfl, _⟩ := h
    rfl
  · obtain ⟨k, a, b, rfl, q1, q2⟩ := h
    refine ⟨_, (pss_cons (ps_if (pt_cmpR op_eq (pv 0) pe_int (nomark _)) (pss_one (ps_ret (pe_callS G_residues (hr.mono (by first | decide | omega)) (by rfl) T.d_residues.g T.d_residues.F.kp T.d_residues.b (fun σ => L2N.passAt (L2N.takes_of rfl rfl rfl rfl) σ) (pa_cons (pv 1) (pa_cons (pv 2) pa_nil))))) pss_nil)
      (pss_one (ps_ret (pe_callS G_from_residues (hr.mono (by first | decide | omega)) (by rfl) T.d_from_residues.g T.d_from_residues.F.kp T.d_from_residues.b (fun σ => L2N.passAt (L2N.takes_of rfl rfl rfl rfl) σ) (pa_cons (pv 1) (pa_cons (pv 2) pa_nil)))))), ?_⟩
    (change (_ : L2.TS) _ ([some (.int k), some (a), some (b)] : L2.St) _); try dsimp only [L2.cxOf, L2H.cxH]
    walk_at "rd"
    refine Vb.r_ite (fun c => ?_) (fun c => ?_)
    · walk_at "rd"
      exact q1 c
    walk_at "rd"
    exact q2 c
end
end K
namespace K
open PySem PySem.Spec PyProof.Rows L2

abbrev N__law_rests : List Str := ["count", "primes", "prime"]
theorem sc__law_rests : FnScope N__law_rests ["count", "primes"] (defScope s__law_rests) := ⟨rfl, rfl, rfl, by decide +kernel, rfl, by decide +kernel, by decide +kernel⟩
section
variable {P : Program} {w : World} {K : PySem.W.Frag} {mg : Str → Option Value} {base : Heap}
def sp_rests (K : PySem.W.Frag) : Sp := fun vs H Q _ => ∃ (n : Int) (l : Addr) (ns : List Int), vs = [.int n, .ref l] ∧ SqL K H l (ns.map V.int) ∧ ns.length ≤ 1000 ∧ (∀ p ∈ ns, 0 < p) ∧ ∀ (D : Addr) (H' : Hp), H D = none → Same H H' → H' D = some (.lst ((ns.map fun p => n % p).map V.int)) → Q (.ref D) H'
theorem ok_rests (T : Txt K mg) : FnOk P w K mg base (L2N.CX P w) 1 T.f__law_rests T.fd__law_rests ["count", "primes"] (sp_rests K) := by
  refine Vb.okN T.d__law_rests.F sc__law_rests (fun vs H Q E h => ?_) (fun cdv A outer s H vs Q E hr h => ?_)
  · obtain ⟨n, l, ns, rfl, _⟩ := h
    rfl
  · obtain ⟨n, l, ns, rfl, hl, hn, hp, q⟩ := h
    refine ⟨_, (pss_one (ps_ret (pe_lc (own := [("prime", 2)]) (g := gName 2) (tt := tYes) rfl sc__law_rests.nd (pi_list (pv 1)) (blkOk_by (own := [("prime", 2)]) (N := N__law_rests) (sc := defScope s__law_rests) (by decide +kernel)) (fun _ _ _ _ _ => (pg_name (i := 2) sc__law_rests.nd rfl (by first | exact Or.inl rfl | exact Or.inr rfl))) (fun _ _ _ _ _ => pts_nil) (fun _ _ _ _ _ => (pe_op op_mod (pe_callTy Vb.call_int (by rfl) T.n_int (by decide +kernel) (pa_cons (pv 0) pa_nil)) (pv 2)))))), ?_⟩
    (change (_ : L2.TS) _ ([some (.int n), some (.ref l), none] : L2.St) _); try dsimp only [L2.cxOf, L2H.cxH]
    walk_at "rd"
    have ll : (ns.map V.int).length = ns.length := List.length_map ..
    intro D nD
    refine Vb.lcw_list (xs := ns.map V.int) (fun i H' => Same H H' ∧ H' D = some (.lst (((ns.take i).map fun p => n % p).map V.int))) ⟨Vb.same_new nD, upd_same⟩ (fun x => rfl) (fun i H' _ c => c.1.seq hl) ?_ ?_
    · rintro i x H' hi ⟨e, h⟩
      obtain ⟨p, hpi, rfl⟩ := Vb.getV' hi
      have p2 := hp p (List.mem_of_getElem? hpi)
      have li := (List.getElem?_eq_some_iff.mp hpi).1
      walk_at "rd"
      refine ⟨_, h, Vb.size_lt (by rw [List.length_map, List.length_map, List.length_take]; omega), Vb.same_mut e nD, ?_⟩
      rw [upd_same, List.take_add_one, hpi, List.map_append, List.map_append]
      rfl
    rintro H' ⟨e, h⟩
    rw [ll, List.take_length] at h
    exact q D H' nD e h
end
end K
namespace K
open PySem PySem.Spec PyProof.Rows L2
section
variable {K : PySem.W.Frag}
theorem ints_inj {ns ms : List Int} (h : ns.map V.int = ms.map V.int) : ns = ms := (List.map_inj_right (f := V.int) (fun a b h => by cases h; rfl)).mp h
theorem shaped_lst (ns : List Int) : SeqAt.shaped (.list (ns.map PyData.int)) = true := by
  simp [SeqAt.shaped, PyData.canLay0, PyData.canLayAll0, PyData.depth, PyData.depthAll, PySem.W.ke_canLayAll0, PySem.W.ke_depthAll]
theorem eqv_lst (ns : List Int) : PyData.eqv (.list (ns.map PyData.int)) (.list (ns.map PyData.int)) = true := by
  simp only [PyData.eqv]
  rw [PySem.W.ked_eqvAll ns ns]
  exact decide_eq_true rfl
theorem eqv_one (s : Str) : PyData.eqv (.list [.str s]) (.list [.str s]) = true := by
  simp [PyData.eqv, PyData.eqvAll]
theorem shaped_one {s : Str} (h : PyData.strOk s = true) : SeqAt.shaped (.list [.str s]) = true := by
  simp [SeqAt.shaped, PyData.canLay0, PyData.canLayAll0, PyData.depth, PyData.depthAll, h]
theorem PrRow.rev {ns : List Int} (r : PrRow ns) : PrRow ns.reverse := ⟨fun n m => r.p n (List.mem_reverse.mp m), ((List.reverse_perm ns).nodup_iff).mpr r.nd⟩
theorem PrRow.tail {ns : List Int} (r : PrRow ns) : PrRow (ns.drop 1) := ⟨fun n m => r.p n (List.mem_of_mem_drop m), r.nd.sublist (List.drop_sublist 1 ns)⟩
theorem PrRow.pos {ns : List Int} (r : PrRow ns) : 1 ≤ pr ns := pr_pos fun p m => (r.p p m).1.1
theorem PrRow.no {ns : List Int} (r : PrRow ns) {i : Nat} {d : PyData} (h2 : (ns.map PyData.int)[i]? = some d) (h4 : field d = false) : False := by
  rw [List.getElem?_map] at h2
  cases hz : ns[i]? with
  | none => rw [hz] at h2; cases h2
  | some c =>
    rw [hz] at h2
    cases h2
    have := r.p c (List.mem_of_getElem? hz)
    rw [field_yes this.1 this.2] at h4
    cases h4
/-- the rests of a row -/
structure Rests (ns rs : List Int) : Prop where
  l : rs.length = ns.length
  b : ∀ (i : Nat) p r, ns[i]? = some p → rs[i]? = some r → 0 ≤ r ∧ r < p
theorem Rests.tail {ns rs : List Int} (q : Rests ns rs) : Rests (ns.drop 1) (rs.drop 1) := ⟨by rw [List.length_drop, List.length_drop, q.l], fun i p r a b => q.b (1 + i) p r (by rw [← a, List.getElem?_drop]) (by rw [← b, List.getElem?_drop])⟩
theorem Rests.mod {ns : List Int} (r : PrRow ns) (n : Int) : Rests ns (ns.map fun p => n % p) := ⟨List.length_map .., fun i p x a b => by
  rw [List.getElem?_map, a] at b
  cases b
  have := (r.p p (List.mem_of_getElem? a)).1.1
  exact ⟨Int.emod_nonneg _ (by omega), Int.emod_lt_of_pos _ (by omega)⟩⟩
theorem rev_at {xs : List Int} {i : Nat} {x : Int} (h : xs.reverse[i]? = some x) : i < xs.length ∧ xs[xs.length - 1 - i]? = some x := by
  have l := (List.getElem?_eq_some_iff.mp h).1
  rw [List.length_reverse] at l
  exact ⟨l, by rw [← h, List.getElem?_reverse l]⟩
theorem Rests.rev {ns rs : List Int} (q : Rests ns rs) : Rests ns.reverse rs.reverse := ⟨by rw [List.length_reverse, List.length_reverse, q.l], fun i p r a b => by
  obtain ⟨_, a⟩ := rev_at a
  obtain ⟨_, b⟩ := rev_at b
  rw [q.l] at b
  exact q.b _ p r a b⟩
theorem Crt.top {ns rs : List Int} {f : Int} (h : Crt ns rs ns.length f) : 0 ≤ f ∧ f < pr ns := ⟨h.lo, by have := h.hi; rwa [List.take_length] at this⟩
theorem crt_mod {ns : List Int} (r : PrRow ns) {n f : Int} (h : Crt ns (ns.map fun p => n % p) ns.length f) : f = n % pr ns := by
  have pos := r.pos
  refine crt_one r.p r.nd h.top ⟨Int.emod_nonneg _ (by omega), Int.emod_lt_of_pos _ (by omega)⟩ fun p m => ?_
  obtain ⟨i, hi⟩ := List.getElem?_of_mem m
  rw [h.at_ i p (n % p) (List.getElem?_eq_some_iff.mp hi).1 hi (by rw [List.getElem?_map, hi]; rfl)]
  exact (Int.emod_emod_of_dvd _ (Int.dvd_of_emod_eq_zero (pr_mem m))).symm
theorem crt_map {ns rs : List Int} {f : Int} (q : Rests ns rs) (h : Crt ns rs ns.length f) : (ns.map fun p => f % p) = rs := by
  refine List.ext_getElem? fun i => ?_
  rw [List.getElem?_map]
  by_cases c : i < ns.length
  · have c2 : i < rs.length := by rw [q.l]; exact c
    have a := h.at_ i ns[i] rs[i] c (List.getElem?_eq_getElem c) (List.getElem?_eq_getElem c2)
    rw [List.getElem?_eq_getElem c, List.getElem?_eq_getElem c2, ← a]
    rfl
  · rw [List.getElem?_eq_none (by omega), List.getElem?_eq_none (by rw [q.l]; omega)]
    rfl
theorem crt_rev {ns rs : List Int} {f g : Int} (r : PrRow ns) (q : Rests ns rs) (h : Crt ns rs ns.length f) (h' : Crt ns.reverse rs.reverse ns.reverse.length g) : g = f := by
  have t := h'.top
  rw [pr_perm (List.reverse_perm ns)] at t
  refine crt_one r.p r.nd t h.top fun p m => ?_
  obtain ⟨i, hi⟩ := List.getElem?_of_mem m
  have c := (List.getElem?_eq_some_iff.mp hi).1
  have c2 : i < rs.length := by rw [q.l]; exact c
  have hr := List.getElem?_eq_getElem c2
  rw [h.at_ i p _ c hi hr]
  have e : ns.length - 1 - (ns.length - 1 - i) = i := by omega
  refine h'.at_ (ns.length - 1 - i) p _ (by rw [List.length_reverse]; omega) ?_ ?_
  · rw [List.getElem?_reverse (by omega), e]
    exact hi
  · rw [List.getElem?_reverse (by rw [q.l]; omega), q.l, e]
    exact hr
theorem use_residues {NP R L O l : Addr} {ns : List Int} {n : Int} {H : Hp} {Q : VK} {E : XK} (hl : Vb.SqA K H l (ns.map V.int)) (r : PrRow ns) (hn : ns.length ≤ 8) (hb : 0 ≤ n ∧ n ≤ big300) (q : ∀ (D : Addr) (H' : Hp), H D = none → Same H H' → H' D = some (.lst ((ns.map fun p => n % p).map V.int)) → Q (.ref D) H') : sp_residues K NP R L O [.int n, .ref l] H Q E := by
  refine ⟨.int n, .int n, l, _, ns.map PyData.int, rfl, .int n, hl, Vb.dpa_ints ns, fun z => ?_, fun _ => ⟨fun z => ?_, fun _ i v d _ h2 _ h4 => (r.no h2 h4).elim, fun _ ms k1 k2 _ => ?_⟩⟩
  · rw [inRange_int.mpr hb] at z
    cases z
  · rw [List.length_map] at z
    omega
  obtain rfl := ints_inj k1
  refine ⟨fun z => absurd r.nd z, fun _ m em D H' nD e h => ?_⟩
  cases em
  exact q D H' nD e h
theorem use_fromres {NP N R L W l m : Addr} {ns rs : List Int} {H : Hp} {Q : VK} {E : XK} (hl : Vb.SqA K H l (ns.map V.int)) (hm : Vb.SqA K H m (rs.map V.int)) (r : PrRow ns) (hn : ns.length ≤ 8) (hq : Rests ns rs) (q : ∀ (f : Int) (H' : Hp), Same H H' → Crt ns rs ns.length f → Q (.int f) H') : sp_fromres K NP N R L W [.ref l, .ref m] H Q E := by
  refine ⟨l, m, _, _, ns.map PyData.int, rs.map PyData.int, rfl, hl, Vb.dpa_ints ns, hm, Vb.dpa_ints _, fun z => ?_, fun _ i v d _ h2 _ h4 => (r.no h2 h4).elim, fun _ ms k1 k2 _ => ?_⟩
  · rw [List.length_map] at z
    omega
  obtain rfl := ints_inj k1
  refine ⟨fun z => absurd r.nd z, fun _ => ⟨fun z => absurd (by rw [List.length_map, hq.l]) z, fun _ => ⟨fun i p v d h1 h2 h3 _ h5 => ?_, fun rs' k3 k4 _ f H5 e5 hf => ?_⟩⟩⟩
  · exfalso
    rw [List.getElem?_map] at h3
    cases hz : rs[i]? with
    | none => rw [hz] at h3; cases h3
    | some x =>
      rw [hz] at h3
      cases h3
      rw [inField_int.mpr (hq.b i p x h1 hz)] at h5
      cases h5
  obtain rfl := ints_inj k3
  exact q f H5 e5 hf
/-- len in a comprehension -/
theorem call_lenK {X : Cx} (h : X.K = K) : CallR X (.builtin "len") (Vb.rLenS K) := by
  subst h
  exact Vb.call_len
/-- two rows of one kind, alike -/
def Twin (K : PySem.W.Frag) (H : Hp) (h c : Addr) (ns : List Int) : Prop := (SqL K H h (ns.map V.int) ∧ SqL K H c (ns.map V.int)) ∨ (SqT K H h (ns.map V.int) ∧ SqT K H c (ns.map V.int))
theorem Twin.same {H H' : Hp} {h c : Addr} {ns : List Int} (t : Twin K H h c ns) (e : Same H H') : Twin K H' h c ns := t.elim (fun ⟨a, b⟩ => .inl ⟨e.seq a, e.seq b⟩) fun ⟨a, b⟩ => .inr ⟨Vb.sqT_same e a, Vb.sqT_same e b⟩
theorem Twin.fr {H H' : Hp} {h c st : Addr} {ns : List Int} (t : Twin K H h c ns) (S : Vb.StoreAt H st) (mh : h ≠ st) (mc : c ≠ st) (f : Vb.Fr st H H') : Twin K H' h c ns := t.elim (fun ⟨a, b⟩ => .inl ⟨f.seq mh a, f.seq mc b⟩) fun ⟨a, b⟩ => .inr ⟨Vb.sqT_fr f S a, Vb.sqT_fr f S b⟩
theorem Twin.sqA {H : Hp} {h c : Addr} {ns : List Int} (t : Twin K H h c ns) : Vb.SqA K H h (ns.map V.int) := t.elim (fun a => .inl a.1) fun a => .inr a.1
theorem Twin.dp {H : Hp} {h c : Addr} {ns : List Int} (t : Twin K H h c ns) (hn : ns.length ≤ 8) : ∃ d, Dp K H (.ref h) d ∧ Dp K H (.ref c) d ∧ Vb.DOk 5 d := by
  rcases t with ⟨a, b⟩ | ⟨a, b⟩
  · exact ⟨_, Vb.dp_ints a, Vb.dp_ints b, Vb.dok_ints (by omega)⟩
  · exact ⟨_, .tup a (Vb.dpa_ints ns), .tup b (Vb.dpa_ints ns), by rw [List.length_map]; omega, fun d m => by
      obtain ⟨z, _, rfl⟩ := List.mem_map.mp m
      trivial⟩
theorem Twin.of {H1 H2 : Hp} {h c : Addr} {ns : List Int} {b : Bool} (e : Same H1 H2) (hb1 : b = true → SqL K H1 h (ns.map V.int)) (hb2 : b = false → SqT K H1 h (ns.map V.int)) (hc1 : b = true → H2 c = some (.lst (ns.map V.int))) (hc2 : b = false → H2 c = some (.tup (ns.map V.int))) : Twin K H2 h c ns := by
  cases b with
  | true => exact .inl ⟨e.seq (hb1 rfl), Vb.sq_of (hc1 rfl)⟩
  | false => exact .inr ⟨Vb.sqT_same e (hb2 rfl), Vb.st_of (hc2 rfl)⟩
theorem row_kind {H0 H1 : Hp} {h : Addr} {xs : List V} (g : (H1 h = some (.lst xs) ∧ H0 h = none) ∨ SqT K H1 h xs) : ∃ b : Bool, (b = true → SqL K H1 h xs) ∧ (b = false → SqT K H1 h xs) := by
  rcases g with g | g
  · exact ⟨true, fun _ => Vb.sq_of g.1, fun z => by cases z⟩
  · exact ⟨false, (fun z => by cases z), fun _ => g⟩
end
end K
namespace K
open PySem PySem.Spec PyProof.Rows L2

abbrev N__law_told : List Str := ["which", "first", "second", "value", "e"]
theorem sc__law_told : FnScope N__law_told ["which", "first", "second", "value"] (defScope s__law_told) := ⟨rfl, rfl, rfl, by decide +kernel, rfl, by decide +kernel, by decide +kernel⟩
section
variable {P : Program} {w : World} {K : PySem.W.Frag} {mg : Str → Option Value} {base : Heap}
def Bare (H : Hp) (C : Addr) (A : VK → XK → Prop) : Prop := ∀ (Q' : VK) (E' : XK), (∀ H1, Same H H1 → E' (.ref C) none H1) → A Q' E'
def Valued (H : Hp) (C : Addr) (u : V) (A : VK → XK → Prop) : Prop := ∀ (Q' : VK) (E' : XK), (∀ (H1 : Hp) (dd : Addr), Same H H1 → H1 dd = none → E' (.ref C) (some dd) (upd H1 dd (.xd [("value", u)]))) → A Q' E'
/-- the question is refused so -/
def Refused (C1 C2 C3 C4 C5 C6 : Addr) (nm : Str) (u : V) (H : Hp) (A : VK → XK → Prop) : Prop := (nm = "TooLarge" ∧ Bare H C1 A) ∨ (nm = "Repeated" ∧ Bare H C2 A) ∨ (nm = "NotPrime" ∧ Valued H C3 u A) ∨ (nm = "OutOfRange" ∧ Bare H C4 A) ∨ (nm = "WrongPlaces" ∧ Bare H C5 A) ∨ (nm = "NotInField" ∧ Valued H C6 u A)
def sp_told (K : PySem.W.Frag) (C1 C2 C3 C4 C5 C6 : Addr) : Sp := fun vs H Q _ => ∃ (k : Int) (a b u : V) (ud : PyData) (nm : Str), vs = [.int k, a, b, u] ∧ Dp K H u ud ∧ Vb.DOk 4 ud ∧ Refused C1 C2 C3 C4 C5 C6 nm u H (fun Q' E' => sp_lawasked K C3 C6 C2 C1 C5 C4 [.int k, a, b] H Q' E') ∧ ∀ (r : Addr) (H' : Hp), H r = none → Same H H' → H' r = some (.lst [.str nm]) → Q (.ref r) H'
theorem ok_told (T : Txt K mg) : FnOk P w K mg base (L2N.CX P w) 8 T.f__law_told T.fd__law_told ["which", "first", "second", "value"] (sp_told K T.C_TooLarge T.C_Repeated T.C_NotPrime T.C_OutOfRange T.C_WrongPlaces T.C_NotInField) := by
  have G__law_asked := ok_lawasked (P := P) (w := w) (base := base) T
  have GE__law_class_names := ok_classnames (P := P) (w := w) (base := base) T
  have GH__law_same := okh_same (P := P) (w := w) (base := base) T 5
  refine Vb.okN T.d__law_told.F sc__law_told (fun vs H Q E h => ?_) (fun cdv A outer s H vs Q E hr h => ?_)
  · obtain ⟨k, a, b, u, ud, nm, rfl, _⟩ := h
    rfl
  · obtain ⟨k, a, b, u, ud, nm, rfl, hu, ok, hc, q⟩ := h
    
    refine ⟨_, (pss_cons (Vb.ps_try_all (Wo := (fun cls d _ H => E cls d H)) rfl rfl sc__law_told.nd (L2N.takes_of rfl rfl rfl rfl) (fun W pn xe tk po => (pss_one (ps_expr (pe_callS G__law_asked (hr.mono (by first | decide | omega)) (by rfl) T.d__law_asked.g T.d__law_asked.F.kp T.d__law_asked.b (fun σ => L2N.passAt tk σ) (pa_cons (pv 0) (pa_cons (pv 1) (pa_cons (pv 2) pa_nil)))))))
        (Vb.Clauses.cons (i := 4) rfl rfl ⟨rfl, by decide, Or.inl T.i_NotPrime.g⟩
        (fun a oe cls d pn hz hf => (pss_one (ps_ret (pe_op op_cat (Vb.pe_callE hz hf GE__law_class_names (Vb.roomH_mark (hr.mono (by first | decide | omega)) _) rfl T.d__law_class_names.g T.d__law_class_names.F.kp T.d__law_class_names.b (pa_cons (pv 4) pa_nil)) (pe_op op_rep (pe_lst (pa_cons pe_str pa_nil)) (pe_callTy Vb.call_int (by rfl) T.n_int (by decide +kernel) (pa_cons (pe_not (L2H.pe_callH GH__law_same (Vb.roomH_mark (hr.mono (by first | decide | omega)) _) (Vb.hotN hz hf) rfl T.d__law_same.g T.d__law_same.F.kp T.d__law_same.b (fun σ => Vb.passH) (pa_cons (pe_xf T.xk_NotPrime.xf T.i_NotPrime.noN hz.zc hf (pv 4)) (pa_cons (pv 3) pa_nil)))) pa_nil))))))) (Vb.Clauses.cons (i := 4) rfl rfl ⟨rfl, by decide, Or.inl T.i_NotInField.g⟩
        (fun a oe cls d pn hz hf => (pss_one (ps_ret (pe_op op_cat (Vb.pe_callE hz hf GE__law_class_names (Vb.roomH_mark (hr.mono (by first | decide | omega)) _) rfl T.d__law_class_names.g T.d__law_class_names.F.kp T.d__law_class_names.b (pa_cons (pv 4) pa_nil)) (pe_op op_rep (pe_lst (pa_cons pe_str pa_nil)) (pe_callTy Vb.call_int (by rfl) T.n_int (by decide +kernel) (pa_cons (pe_not (L2H.pe_callH GH__law_same (Vb.roomH_mark (hr.mono (by first | decide | omega)) _) (Vb.hotN hz hf) rfl T.d__law_same.g T.d__law_same.F.kp T.d__law_same.b (fun σ => Vb.passH) (pa_cons (pe_xf T.xk_NotInField.xf T.i_NotInField.noN hz.zc hf (pv 4)) (pa_cons (pv 3) pa_nil)))) pa_nil))))))) (Vb.Clauses.cons (i := 4) rfl rfl ⟨rfl, by decide, Or.inl T.x_TalkError.g⟩
        (fun a oe cls d pn hz hf => (pss_one (ps_ret (Vb.pe_callE hz hf GE__law_class_names (Vb.roomH_mark (hr.mono (by first | decide | omega)) _) rfl T.d__law_class_names.g T.d__law_class_names.F.kp T.d__law_class_names.b (pa_cons (pv 4) pa_nil))))) Vb.Clauses.nil))))
      (pss_one (ps_ret (pe_lst (pa_cons pe_str pa_nil))))), ?_⟩
    (change (_ : L2.TS) _ ([some (.int k), some (a), some (b), some (u), none] : L2.St) _); try dsimp only [L2.cxOf, L2H.cxH]
    walk_at "rd"
    rcases hc with ⟨rfl, hc⟩ | ⟨rfl, hc⟩ | ⟨rfl, hc⟩ | ⟨rfl, hc⟩ | ⟨rfl, hc⟩ | ⟨rfl, hc⟩
    · refine hc _ _ fun H1 e1 => ?_
      refine Vb.r_pass (T.xk_NotPrime.no T.xs_TooLarge_NotPrime) (Vb.r_pass (T.xk_NotInField.no T.xs_TooLarge_NotInField) (Vb.r_asS T.xk_TalkError T.xs_TooLarge_TalkError fun ea hea => ?_))
      walk_at "rd"
      refine ⟨T.C_TooLarge, true, false, false, false, false, false, rfl, rfl, T.xk_TooLarge, .inl rfl, T.k_TooLarge_TooLarge, T.k_TooLarge_Repeated, T.k_TooLarge_NotPrime, T.k_TooLarge_OutOfRange, T.k_TooLarge_WrongPlaces, T.k_TooLarge_NotInField, fun r H' nr e hr => ?_⟩
      exact q r H' (e1.free nr) (e1.trans e) hr
    · refine hc _ _ fun H1 e1 => ?_
      refine Vb.r_pass (T.xk_NotPrime.no T.xs_Repeated_NotPrime) (Vb.r_pass (T.xk_NotInField.no T.xs_Repeated_NotInField) (Vb.r_asS T.xk_TalkError T.xs_Repeated_TalkError fun ea hea => ?_))
      walk_at "rd"
      refine ⟨T.C_Repeated, false, true, false, false, false, false, rfl, rfl, T.xk_Repeated, .inl rfl, T.k_Repeated_TooLarge, T.k_Repeated_Repeated, T.k_Repeated_NotPrime, T.k_Repeated_OutOfRange, T.k_Repeated_WrongPlaces, T.k_Repeated_NotInField, fun r H' nr e hr => ?_⟩
      exact q r H' (e1.free nr) (e1.trans e) hr
    · refine hc _ _ fun H0 dd e0 nd => ?_
      refine Vb.r_as T.xk_NotPrime fun ea hea => ?_
      walk_at "rd"
      refine ⟨T.C_NotPrime, false, false, true, false, false, false, rfl, rfl, T.xk_NotPrime, .inr ⟨dd, _, rfl, upd_same⟩, T.k_NotPrime_TooLarge, T.k_NotPrime_Repeated, T.k_NotPrime_NotPrime, T.k_NotPrime_OutOfRange, T.k_NotPrime_WrongPlaces, T.k_NotPrime_NotInField, fun N H1 nN e1 hN => ?_⟩
      have hN : H1 N = some (.lst [.str "NotPrime"]) := hN
      have hx := e1 _ _ (upd_same (H := H0) (a := dd) (o := .xd [("value", u)]))
      have eH := e0.trans ((Vb.same_new (o := .xd [("value", u)]) nd).trans e1)
      have hv1 := Vb.dp_same eH _ _ hu
      walk_at "rd"
      refine ⟨Vb.size_ok (by show 1 ≤ 16777216; decide), fun A nA => ?_⟩
      have eA := Vb.same_new (o := .lst [.str "with another value"]) nA
      have hA : (upd H1 A (.lst [.str "with another value"])) A = some (.lst [.str "with another value"]) := upd_same
      have hx2 := eA _ _ hx
      have hN2 := eA _ _ hN
      have hv2 := Vb.dp_same eA _ _ hv1
      have e2 := eH.trans eA
      generalize upd H1 A _ = H2 at hA hx2 hN2 hv2 e2 ⊢
      walk_at "rd"
      refine Vb.r_xfv hx2 rfl ?_
      walk_at "rd"
      refine use_same _ hv2 hv2 (Vb.dok_up _ _ ok) ?_
      walk_at "rd"
      refine Vb.r_repL hA ⟨by decide, by decide⟩ (Vb.size_ok (by decide)) fun B nB => ?_
      have eB := Vb.same_new (o := .lst ((List.replicate (if (!true) = true then (1 : Int) else 0).toNat [V.str "with another value"]).flatten)) nB
      have hB : (upd H2 B (.lst ((List.replicate (if (!true) = true then (1 : Int) else 0).toNat [V.str "with another value"]).flatten))) B = some (.lst []) := upd_same
      have hN3 := eB _ _ hN2
      refine Vb.r_cat hN3 hB (Vb.size_ok (by decide)) fun r nr => ?_
      exact q r _ ((e2.trans eB).free nr) ((e2.trans eB).trans (Vb.same_new nr)) upd_same
    · refine hc _ _ fun H1 e1 => ?_
      refine Vb.r_pass (T.xk_NotPrime.no T.xs_OutOfRange_NotPrime) (Vb.r_pass (T.xk_NotInField.no T.xs_OutOfRange_NotInField) (Vb.r_asS T.xk_TalkError T.xs_OutOfRange_TalkError fun ea hea => ?_))
      walk_at "rd"
      refine ⟨T.C_OutOfRange, false, false, false, true, false, false, rfl, rfl, T.xk_OutOfRange, .inl rfl, T.k_OutOfRange_TooLarge, T.k_OutOfRange_Repeated, T.k_OutOfRange_NotPrime, T.k_OutOfRange_OutOfRange, T.k_OutOfRange_WrongPlaces, T.k_OutOfRange_NotInField, fun r H' nr e hr => ?_⟩
      exact q r H' (e1.free nr) (e1.trans e) hr
    · refine hc _ _ fun H1 e1 => ?_
      refine Vb.r_pass (T.xk_NotPrime.no T.xs_WrongPlaces_NotPrime) (Vb.r_pass (T.xk_NotInField.no T.xs_WrongPlaces_NotInField) (Vb.r_asS T.xk_TalkError T.xs_WrongPlaces_TalkError fun ea hea => ?_))
      walk_at "rd"
      refine ⟨T.C_WrongPlaces, false, false, false, false, true, false, rfl, rfl, T.xk_WrongPlaces, .inl rfl, T.k_WrongPlaces_TooLarge, T.k_WrongPlaces_Repeated, T.k_WrongPlaces_NotPrime, T.k_WrongPlaces_OutOfRange, T.k_WrongPlaces_WrongPlaces, T.k_WrongPlaces_NotInField, fun r H' nr e hr => ?_⟩
      exact q r H' (e1.free nr) (e1.trans e) hr
    · refine hc _ _ fun H0 dd e0 nd => ?_
      refine Vb.r_pass (T.xk_NotPrime.no T.xs_NotInField_NotPrime) (Vb.r_as T.xk_NotInField fun ea hea => ?_)
      walk_at "rd"
      refine ⟨T.C_NotInField, false, false, false, false, false, true, rfl, rfl, T.xk_NotInField, .inr ⟨dd, _, rfl, upd_same⟩, T.k_NotInField_TooLarge, T.k_NotInField_Repeated, T.k_NotInField_NotPrime, T.k_NotInField_OutOfRange, T.k_NotInField_WrongPlaces, T.k_NotInField_NotInField, fun N H1 nN e1 hN => ?_⟩
      have hN : H1 N = some (.lst [.str "NotInField"]) := hN
      have hx := e1 _ _ (upd_same (H := H0) (a := dd) (o := .xd [("value", u)]))
      have eH := e0.trans ((Vb.same_new (o := .xd [("value", u)]) nd).trans e1)
      have hv1 := Vb.dp_same eH _ _ hu
      walk_at "rd"
      refine ⟨Vb.size_ok (by show 1 ≤ 16777216; decide), fun A nA => ?_⟩
      have eA := Vb.same_new (o := .lst [.str "with another value"]) nA
      have hA : (upd H1 A (.lst [.str "with another value"])) A = some (.lst [.str "with another value"]) := upd_same
      have hx2 := eA _ _ hx
      have hN2 := eA _ _ hN
      have hv2 := Vb.dp_same eA _ _ hv1
      have e2 := eH.trans eA
      generalize upd H1 A _ = H2 at hA hx2 hN2 hv2 e2 ⊢
      walk_at "rd"
      refine Vb.r_xfv hx2 rfl ?_
      walk_at "rd"
      refine use_same _ hv2 hv2 (Vb.dok_up _ _ ok) ?_
      walk_at "rd"
      refine Vb.r_repL hA ⟨by decide, by decide⟩ (Vb.size_ok (by decide)) fun B nB => ?_
      have eB := Vb.same_new (o := .lst ((List.replicate (if (!true) = true then (1 : Int) else 0).toNat [V.str "with another value"]).flatten)) nB
      have hB : (upd H2 B (.lst ((List.replicate (if (!true) = true then (1 : Int) else 0).toNat [V.str "with another value"]).flatten))) B = some (.lst []) := upd_same
      have hN3 := eB _ _ hN2
      refine Vb.r_cat hN3 hB (Vb.size_ok (by decide)) fun r nr => ?_
      exact q r _ ((e2.trans eB).free nr) ((e2.trans eB).trans (Vb.same_new nr)) upd_same
end
end K
namespace K
open PySem PySem.Spec PyProof.Rows L2

abbrev N__law_residues_are : List Str := ["store", "count", "primes", "row", "kept", "turn", "actual", "back"]
theorem sc__law_residues_are : FnScope N__law_residues_are ["store", "count", "primes"] (defScope s__law_residues_are) := ⟨rfl, rfl, rfl, by decide +kernel, rfl, by decide +kernel, by decide +kernel⟩
section
variable {P : Program} {w : World} {K : PySem.W.Frag} {mg : Str → Option Value} {base : Heap}
def sp_residuesare (K : PySem.W.Frag) : Sp := fun vs H Q _ => ∃ (st l : Addr) (ns : List Int) (n : Int), vs = [.ref st, .int n, .ref l] ∧ Vb.StoreAt H st ∧ l ≠ st ∧ SqL K H l (ns.map V.int) ∧ PrRow ns ∧ ns.length ≤ 8 ∧ (0 ≤ n ∧ n ≤ big300) ∧ ∀ H', Vb.Fr st H H' → Vb.StoreAt H' st → Q (.bl true) H'
theorem ok_residuesare (T : Txt K mg) : FnOk P w K mg base (L2N.CX P w) 7 T.f__law_residues_are T.fd__law_residues_are ["store", "count", "primes"] (sp_residuesare K) := by
  have G__law_row := ok_row (P := P) (w := w) (base := base) T
  have G__law_copy := ok_copyrow (P := P) (w := w) (base := base) T
  have G_residues := ok_residues (P := P) (w := w) (base := base) T
  have G__law_rests := ok_rests (P := P) (w := w) (base := base) T
  have G_from_residues := ok_fromres (P := P) (w := w) (base := base) T
  have G__law_product := ok_lawproduct (P := P) (w := w) (base := base) T
  have G__law_spoil_list := ok_spoil (P := P) (w := w) (base := base) T
  have G__law_same := ok_same (P := P) (w := w) (base := base) T 5
  refine Vb.okN T.d__law_residues_are.F sc__law_residues_are (fun vs H Q E h => ?_) (fun cdv A outer s H vs Q E hr h => ?_)
  · obtain ⟨st, l, ns, n, rfl, _⟩ := h
    rfl
  · obtain ⟨st, l, ns, n, rfl, hS, ml, hl, r, hn, hb, q⟩ := h
    refine ⟨_, (pss_cons (ps_set (i := 3) sc__law_residues_are.nd rfl (by first | exact Or.inl rfl | exact Or.inr rfl) (pe_callS G__law_row (hr.mono (by first | decide | omega)) (by rfl) T.d__law_row.g T.d__law_row.F.kp T.d__law_row.b (fun σ => L2N.passAt (L2N.takes_of rfl rfl rfl rfl) σ) (pa_cons (pv 0) (pa_cons (pv 2) pa_nil))))
      (pss_cons (ps_set (i := 4) sc__law_residues_are.nd rfl (by first | exact Or.inl rfl | exact Or.inr rfl) (pe_callS G__law_copy (hr.mono (by first | decide | omega)) (by rfl) T.d__law_copy.g T.d__law_copy.F.kp T.d__law_copy.b (fun σ => L2N.passAt (L2N.takes_of rfl rfl rfl rfl) σ) (pa_cons (pv 3) pa_nil)))
      (pss_cons (ps_for (L2.passes_of rfl) rfl (pi_range1 rfl T.n_range (pa_cons pe_int pa_nil)) (pg_name (i := 5) sc__law_residues_are.nd rfl (by first | exact Or.inl rfl | exact Or.inr rfl))
        (pss_cons (ps_set (i := 6) sc__law_residues_are.nd rfl (by first | exact Or.inl rfl | exact Or.inr rfl) (pe_callS G_residues (hr.mono (by first | decide | omega)) (by rfl) T.d_residues.g T.d_residues.F.kp T.d_residues.b (fun σ => L2N.passAt (L2N.takes_of rfl rfl rfl rfl) σ) (pa_cons (pv 1) (pa_cons (pv 3) pa_nil))))
      (pss_cons (ps_if (PW.pt (pw_or (pt_not (pt_val (pe_callS G__law_same (hr.mono (by first | decide | omega)) (by rfl) T.d__law_same.g T.d__law_same.F.kp T.d__law_same.b (fun σ => L2N.passAt (L2N.takes_of rfl rfl rfl rfl) σ) (pa_cons (pv 6) (pa_cons (pe_callS G__law_rests (hr.mono (by first | decide | omega)) (by rfl) T.d__law_rests.g T.d__law_rests.F.kp T.d__law_rests.b (fun σ => L2N.passAt (L2N.takes_of rfl rfl rfl rfl) σ) (pa_cons (pv 1) (pa_cons (pv 2) pa_nil))) pa_nil))))) (pw_or1 (pt_not (pt_val (pe_callS G__law_same (hr.mono (by first | decide | omega)) (by rfl) T.d__law_same.g T.d__law_same.F.kp T.d__law_same.b (fun σ => L2N.passAt (L2N.takes_of rfl rfl rfl rfl) σ) (pa_cons (pv 3) (pa_cons (pv 4) pa_nil)))))))) (pss_one (ps_ret pe_bl)) pss_nil)
      (pss_cons (ps_if (pt_cmpR op_eq (pv 5) pe_int (nomark _)) (pss_cons (ps_set (i := 7) sc__law_residues_are.nd rfl (by first | exact Or.inl rfl | exact Or.inr rfl) (pe_callS G_from_residues (hr.mono (by first | decide | omega)) (by rfl) T.d_from_residues.g T.d_from_residues.F.kp T.d_from_residues.b (fun σ => L2N.passAt (L2N.takes_of rfl rfl rfl rfl) σ) (pa_cons (pv 3) (pa_cons (pv 6) pa_nil))))
      (pss_one (ps_ret (pe_and (pe_callS G__law_same (hr.mono (by first | decide | omega)) (by rfl) T.d__law_same.g T.d__law_same.F.kp T.d__law_same.b (fun σ => L2N.passAt (L2N.takes_of rfl rfl rfl rfl) σ) (pa_cons (pv 7) (pa_cons (pe_op op_mod (pe_callTy Vb.call_int (by rfl) T.n_int (by decide +kernel) (pa_cons (pv 1) pa_nil)) (pe_callS G__law_product (hr.mono (by first | decide | omega)) (by rfl) T.d__law_product.g T.d__law_product.F.kp T.d__law_product.b (fun σ => L2N.passAt (L2N.takes_of rfl rfl rfl rfl) σ) (pa_cons (pv 2) pa_nil))) pa_nil))) (pe_one (pe_callS G__law_same (hr.mono (by first | decide | omega)) (by rfl) T.d__law_same.g T.d__law_same.F.kp T.d__law_same.b (fun σ => L2N.passAt (L2N.takes_of rfl rfl rfl rfl) σ) (pa_cons (pv 6) (pa_cons (pe_callS G__law_rests (hr.mono (by first | decide | omega)) (by rfl) T.d__law_rests.g T.d__law_rests.F.kp T.d__law_rests.b (fun σ => L2N.passAt (L2N.takes_of rfl rfl rfl rfl) σ) (pa_cons (pv 1) (pa_cons (pv 2) pa_nil))) pa_nil)))))))) pss_nil)
      (pss_one (ps_expr (pe_callS G__law_spoil_list (hr.mono (by first | decide | omega)) (by rfl) T.d__law_spoil_list.g T.d__law_spoil_list.F.kp T.d__law_spoil_list.b (fun σ => L2N.passAt (L2N.takes_of rfl rfl rfl rfl) σ) (pa_cons (pv 6) pa_nil))))))))
      (pss_one (ps_ret pe_bl))))), ?_⟩
    (change (_ : L2.TS) _ ([some (.ref st), some (.int n), some (.ref l), none, none, none, none, none] : L2.St) _); try dsimp only [L2.cxOf, L2H.cxH]
    walk_at "rd"
    refine ⟨st, l, ns.map V.int, rfl, hS, ml, .inl hl, fun h H1 mh hh hrow f1 S1 => ?_⟩
    have hl1 := f1.seq ml hl
    obtain ⟨b, hb1, hb2⟩ := row_kind hrow
    walk_at "rd"
    refine ⟨h, ns, b, rfl, hb1, hb2, by omega, fun c H2 e2 nc hc1 hc2 => ?_⟩
    have tw := Twin.of e2 hb1 hb2 hc1 hc2
    have hl2 := e2.seq hl1
    have S2 := S1.same e2
    have F2 := f1.trans (Vb.Fr.of (st := st) e2)
    have lr : (ns.map fun p => n % p).length = ns.length := List.length_map ..
    have pp : ∀ p ∈ ns, 0 < p := fun p m => by have := (r.p p m).1.1; omega
    have pos := r.pos
    clear hc1 hc2 nc e2 hb1 hb2 hrow hh hl1 S1 f1 hl hS
    walk_at "rd"
    refine Vb.lp_range (fun i σ H' => i ≤ 1 ∧ Same H2 H' ∧ ∃ y z u, σ = [some (.ref st), some (.int n), some (.ref l), some (.ref h), some (.ref c), y, z, u]) ⟨by decide, Same.refl _, none, none, none, rfl⟩ ?_ ?_
    · rintro i σ H' hi ⟨i1, e, y, z, u, rfl⟩
      rw [Int.zero_add]
      walk_at "rd"
      refine use_residues (tw.same e).sqA r hn hb fun D H3 nD e3 hD => ?_
      have e23 := e.trans e3
      walk_at "rd"
      refine ⟨n, l, ns, rfl, e23.seq hl2, by omega, pp, fun R H4 nR e4 hR => ?_⟩
      have e24 := e23.trans e4
      have hD4 := e4 _ _ hD
      obtain ⟨d, hd, hcd, dk⟩ := (tw.same e24).dp hn
      walk_at "rd"
      refine use_same _ (Vb.dp_ints (Vb.sq_of hD4)) (Vb.dp_ints (Vb.sq_of hR)) (Vb.dok_ints (by omega)) ?_
      walk_at "rd"
      refine use_same d hd hcd dk ?_
      walk_at "rd"
      refine Vb.r_ite (fun c1 => ?_) (fun c1 => ?_)
      · walk_at "rd"
        refine use_fromres (tw.same e24).sqA (.inl (Vb.sq_of hD4)) r hn (.mod r n) fun f H5 e5 hf => ?_
        obtain rfl := crt_mod r hf
        have e25 := e24.trans e5
        have hD5 := e5 _ _ hD4
        walk_at "rd"
        refine ⟨l, ns, rfl, e25.seq hl2, r.bd, ?_⟩
        walk_at "rd"
        refine use_same (.int _) (.int _) (.int _) trivial ?_
        walk_at "rd"
        refine ⟨n, l, ns, rfl, e25.seq hl2, by omega, pp, fun R2 H6 nR2 e6 hR2 => ?_⟩
        walk_at "rd"
        refine use_same _ (Vb.dp_ints (Vb.sq_of (e6 _ _ hD5))) (Vb.dp_ints (Vb.sq_of hR2)) (Vb.dok_ints (by omega)) ?_
        exact q _ (F2.trans (Vb.Fr.of (e25.trans e6))) (S2.same (e25.trans e6))
      · walk_at "rd"
        refine ⟨D, _, rfl, by omega, .inl ⟨hD4, fun us => .inl ?_⟩⟩
        have nD2 := e.free nD
        have e26 : Same H2 (upd (upd H4 D (.lst ((ns.map fun p => n % p).map V.int).reverse)) D (.lst us)) := Vb.same_mut (Vb.same_mut e24 nD2) nD2
        walk_at "rd"
        exact ⟨by omega, e26, _, _, _, rfl⟩
    rintro σ H' ⟨z, _⟩
    exact absurd z (by decide)
end
end K
namespace K
open PySem PySem.Spec PyProof.Rows L2




abbrev N__law_undone : List Str := ["store", "primes", "rests", "row", "kept", "second", "other", "number", "turned", "k"]
theorem sc__law_undone : FnScope N__law_undone ["store", "primes", "rests"] (defScope s__law_undone) := ⟨rfl, rfl, rfl, by decide +kernel, rfl, by decide +kernel, by decide +kernel⟩
section
variable {P : Program} {w : World} {K : PySem.W.Frag} {mg : Str → Option Value} {base : Heap}
def sp_undone (K : PySem.W.Frag) : Sp := fun vs H Q _ => ∃ (st l m : Addr) (ns rs : List Int), vs = [.ref st, .ref l, .ref m] ∧ Vb.StoreAt H st ∧ l ≠ st ∧ m ≠ st ∧ SqL K H l (ns.map V.int) ∧ SqL K H m (rs.map V.int) ∧ PrRow ns ∧ ns.length ≤ 8 ∧ Rests ns rs ∧ ∀ H', Vb.Fr st H H' → Vb.StoreAt H' st → Q (.bl true) H'
theorem ok_undone (T : Txt K mg) : FnOk P w K mg base (L2N.CX P w) 7 T.f__law_undone T.fd__law_undone ["store", "primes", "rests"] (sp_undone K) := by
  have G__law_row := ok_row (P := P) (w := w) (base := base) T
  have G__law_copy := ok_copyrow (P := P) (w := w) (base := base) T
  have G__law_rests := ok_rests (P := P) (w := w) (base := base) T
  have G_from_residues := ok_fromres (P := P) (w := w) (base := base) T
  have G__law_product := ok_lawproduct (P := P) (w := w) (base := base) T
  have G__law_integer := ok_integer (P := P) (w := w) (base := base) T
  have G__law_same := ok_same (P := P) (w := w) (base := base) T 5
  refine Vb.okN T.d__law_undone.F sc__law_undone (fun vs H Q E h => ?_) (fun cdv A outer s H vs Q E hr h => ?_)
  · obtain ⟨st, l, m, ns, rs, rfl, _⟩ := h
    rfl
  · obtain ⟨st, l, m, ns, rs, rfl, hS, ml, mm, hl, hm, r, hn, hq, q⟩ := h
    have pp : ∀ p ∈ ns, 0 < p := fun p m => by have := (r.p p m).1.1; omega
    have hn2 : rs.length ≤ 8 := by rw [hq.l]; exact hn
    refine ⟨_, (pss_cons (ps_set (i := 3) sc__law_undone.nd rfl (by first | exact Or.inl rfl | exact Or.inr rfl) (pe_callS G__law_row (hr.mono (by first | decide | omega)) (by rfl) T.d__law_row.g T.d__law_row.F.kp T.d__law_row.b (fun σ => L2N.passAt (L2N.takes_of rfl rfl rfl rfl) σ) (pa_cons (pv 0) (pa_cons (pv 1) pa_nil))))
      (pss_cons (ps_set (i := 4) sc__law_undone.nd rfl (by first | exact Or.inl rfl | exact Or.inr rfl) (pe_callS G__law_copy (hr.mono (by first | decide | omega)) (by rfl) T.d__law_copy.g T.d__law_copy.F.kp T.d__law_copy.b (fun σ => L2N.passAt (L2N.takes_of rfl rfl rfl rfl) σ) (pa_cons (pv 3) pa_nil)))
      (pss_cons (ps_set (i := 5) sc__law_undone.nd rfl (by first | exact Or.inl rfl | exact Or.inr rfl) (pe_callS G__law_row (hr.mono (by first | decide | omega)) (by rfl) T.d__law_row.g T.d__law_row.F.kp T.d__law_row.b (fun σ => L2N.passAt (L2N.takes_of rfl rfl rfl rfl) σ) (pa_cons (pv 0) (pa_cons (pv 2) pa_nil))))
      (pss_cons (ps_set (i := 6) sc__law_undone.nd rfl (by first | exact Or.inl rfl | exact Or.inr rfl) (pe_callS G__law_copy (hr.mono (by first | decide | omega)) (by rfl) T.d__law_copy.g T.d__law_copy.F.kp T.d__law_copy.b (fun σ => L2N.passAt (L2N.takes_of rfl rfl rfl rfl) σ) (pa_cons (pv 5) pa_nil)))
      (pss_cons (ps_set (i := 7) sc__law_undone.nd rfl (by first | exact Or.inl rfl | exact Or.inr rfl) (pe_callS G_from_residues (hr.mono (by first | decide | omega)) (by rfl) T.d_from_residues.g T.d_from_residues.F.kp T.d_from_residues.b (fun σ => L2N.passAt (L2N.takes_of rfl rfl rfl rfl) σ) (pa_cons (pv 3) (pa_cons (pv 5) pa_nil))))
      (pss_cons (ps_if (PW.pt (pw_or (pt_not (pt_val (pe_callS G__law_integer (hr.mono (by first | decide | omega)) (by rfl) T.d__law_integer.g T.d__law_integer.F.kp T.d__law_integer.b (fun σ => L2N.passAt (L2N.takes_of rfl rfl rfl rfl) σ) (pa_cons (pv 7) pa_nil)))) (pw_or (pt_not (pt_val (pe_callS G__law_same (hr.mono (by first | decide | omega)) (by rfl) T.d__law_same.g T.d__law_same.F.kp T.d__law_same.b (fun σ => L2N.passAt (L2N.takes_of rfl rfl rfl rfl) σ) (pa_cons (pv 3) (pa_cons (pv 4) pa_nil))))) (pw_or1 (pt_not (pt_val (pe_callS G__law_same (hr.mono (by first | decide | omega)) (by rfl) T.d__law_same.g T.d__law_same.F.kp T.d__law_same.b (fun σ => L2N.passAt (L2N.takes_of rfl rfl rfl rfl) σ) (pa_cons (pv 5) (pa_cons (pv 6) pa_nil))))))))) (pss_one (ps_ret pe_bl)) pss_nil)
      (pss_cons (ps_if (PW.pt (pw_or (pt_cmpR op_lt (pv 7) pe_int (nomark _)) (pw_or (pt_cmpR op_ge (pv 7) (pe_callS G__law_product (hr.mono (by first | decide | omega)) (by rfl) T.d__law_product.g T.d__law_product.F.kp T.d__law_product.b (fun σ => L2N.passAt (L2N.takes_of rfl rfl rfl rfl) σ) (pa_cons (pv 1) pa_nil)) (nomark _)) (pw_or1 (pt_cmpR (op_neD hr.units) (pe_callS G__law_rests (hr.mono (by first | decide | omega)) (by rfl) T.d__law_rests.g T.d__law_rests.F.kp T.d__law_rests.b (fun σ => L2N.passAt (L2N.takes_of rfl rfl rfl rfl) σ) (pa_cons (pv 7) (pa_cons (pv 1) pa_nil))) (pe_callTy Vb.call_list (by rfl) T.n_list (by decide +kernel) (pa_cons (pv 2) pa_nil)) (nomark _)))))) (pss_one (ps_ret pe_bl)) pss_nil)
      (pss_cons (ps_setLc (i := 8) (own := [("k", 9)]) (g := gName 9) (tt := tYes) rfl sc__law_undone.nd rfl rfl (sw_true rfl rfl rfl (by decide +kernel)) (pi_range1 rfl T.n_range (pa_cons (pe_callB (id := "len") (call_lenK (K := K) rfl) (by rfl) T.n_len (by decide +kernel) (pa_cons (pv 1) pa_nil)) pa_nil)) (blkOk_by (own := [("k", 9)]) (N := N__law_undone) (sc := defScope s__law_undone) (by decide +kernel)) (fun _ _ _ _ _ => (pg_name (i := 9) sc__law_undone.nd rfl (by first | exact Or.inl rfl | exact Or.inr rfl))) (fun _ _ _ _ _ => pts_nil) (fun _ _ _ _ _ => (pe_ix (Vb.ix_listK (K := K) rfl) (pv 1) (pe_op op_sub (pe_op op_sub (pe_callB (id := "len") (call_lenK (K := K) rfl) (by rfl) T.n_len (by decide +kernel) (pa_cons (pv 1) pa_nil)) pe_int) (pv 9)) (fun _ _ => rfl))))
      (pss_one (ps_ret (pe_callS G__law_same (hr.mono (by first | decide | omega)) (by rfl) T.d__law_same.g T.d__law_same.F.kp T.d__law_same.b (fun σ => L2N.passAt (L2N.takes_of rfl rfl rfl rfl) σ) (pa_cons (pe_callS G_from_residues (hr.mono (by first | decide | omega)) (by rfl) T.d_from_residues.g T.d_from_residues.F.kp T.d_from_residues.b (fun σ => L2N.passAt (L2N.takes_of rfl rfl rfl rfl) σ) (pa_cons (pv 8) (pa_cons (pe_lc (own := [("k", 9)]) (g := gName 9) (tt := tYes) rfl sc__law_undone.nd (pi_range1 rfl T.n_range (pa_cons (pe_callB (id := "len") (call_lenK (K := K) rfl) (by rfl) T.n_len (by decide +kernel) (pa_cons (pv 2) pa_nil)) pa_nil)) (blkOk_by (own := [("k", 9)]) (N := N__law_undone) (sc := defScope s__law_undone) (by decide +kernel)) (fun _ _ _ _ _ => (pg_name (i := 9) sc__law_undone.nd rfl (by first | exact Or.inl rfl | exact Or.inr rfl))) (fun _ _ _ _ _ => pts_nil) (fun _ _ _ _ _ => (pe_ix (Vb.ix_listK (K := K) rfl) (pv 2) (pe_op op_sub (pe_op op_sub (pe_callB (id := "len") (call_lenK (K := K) rfl) (by rfl) T.n_len (by decide +kernel) (pa_cons (pv 2) pa_nil)) pe_int) (pv 9)) (fun _ _ => rfl)))) pa_nil))) (pa_cons (pv 7) pa_nil))))))))))))), ?_⟩
    (change (_ : L2.TS) _ ([some (.ref st), some (.ref l), some (.ref m), none, none, none, none, none, none, none] : L2.St) _); try dsimp only [L2.cxOf, L2H.cxH]
    walk_at "rd"
    refine ⟨st, l, ns.map V.int, rfl, hS, ml, .inl hl, fun h H1 mh hh hrow f1 S1 => ?_⟩
    obtain ⟨b, hb1, hb2⟩ := row_kind hrow
    walk_at "rd"
    refine ⟨h, ns, b, rfl, hb1, hb2, by omega, fun c H2 e2 nc hc1 hc2 => ?_⟩
    have tw := Twin.of e2 hb1 hb2 hc1 hc2
    have mc := S1.ne nc
    have S2 := S1.same e2
    have F2 := f1.trans (Vb.Fr.of (st := st) e2)
    have hm2 := F2.seq mm hm
    clear hc1 hc2 nc e2 hb1 hb2 hrow hh S1 f1
    walk_at "rd"
    refine ⟨st, m, rs.map V.int, rfl, S2, mm, .inl hm2, fun g H3 mg' hg hrow f3 S3 => ?_⟩
    obtain ⟨b2, hb1, hb2⟩ := row_kind hrow
    walk_at "rd"
    refine ⟨g, rs, b2, rfl, hb1, hb2, by omega, fun c2 H4 e4 nc hc1 hc2 => ?_⟩
    have tw2 := Twin.of e4 hb1 hb2 hc1 hc2
    have tw4 := (tw.fr S2 mh mc f3).same e4
    have F4 := F2.trans (f3.trans (Vb.Fr.of (st := st) e4))
    have S4 := S3.same e4
    have hl4 := F4.seq ml hl
    have hm4 := F4.seq mm hm
    clear hc1 hc2 nc e4 hb1 hb2 hrow hg S3 f3 tw F2 S2 hm2
    walk_at "rd"
    refine use_fromres tw4.sqA tw2.sqA r hn hq fun f H5 e5 hf => ?_
    obtain ⟨f0, f1⟩ := hf.top
    obtain ⟨d, hd, hcd, dk⟩ := (tw4.same e5).dp hn
    obtain ⟨d', hd', hcd', dk'⟩ := (tw2.same e5).dp hn2
    walk_at "rd"
    refine ⟨f, rfl, ?_⟩
    walk_at "rd"
    refine use_same d hd hcd dk ?_
    walk_at "rd"
    refine use_same d' hd' hcd' dk' ?_
    walk_at "rd"
    refine Vb.r_ite (fun z => absurd z (by omega)) (fun _ => ?_)
    walk_at "rd"
    refine ⟨l, ns, rfl, e5.seq hl4, r.bd, ?_⟩
    walk_at "rd"
    refine Vb.r_ite (fun z => absurd z (by omega)) (fun _ => ?_)
    walk_at "rd"
    refine ⟨f, l, ns, rfl, e5.seq hl4, by omega, pp, fun R H6 nR e6 hR => ?_⟩
    rw [crt_map hq hf] at hR
    have e56 := e5.trans e6
    walk_at "rd"
    refine ⟨m, _, rfl, .inl (e56.seq hm4), fun B nB => ?_⟩
    have e7 := e56.trans (Vb.same_new (o := .lst (rs.map V.int)) nB)
    refine ⟨.list (rs.map PyData.int), .list (rs.map PyData.int), Vb.dp_lst (Vb.same_new nB _ _ hR) (Vb.dpa_ints _), Vb.dp_lst upd_same (Vb.dpa_ints _), shaped_lst _, shaped_lst _, ?_⟩
    rw [eqv_lst]
    generalize upd H6 B _ = H7 at e7 ⊢
    have lns : (ns.map V.int).length = ns.length := List.length_map ..
    have lrs : (rs.map V.int).length = rs.length := List.length_map ..
    have hl7 := e7.seq hl4
    walk_at "rd"
    intro D nD
    refine Vb.lcw_range (fun i H' => Same H7 H' ∧ H' D = some (.lst ((ns.reverse.take i).map V.int))) ⟨Vb.same_new nD, upd_same⟩ (fun x => rfl) ?_ ?_
    · rintro i G hi ⟨e, h⟩
      have hi' : i < ns.length := by omega
      have hlG := e.seq hl7
      have hx : ns[ns.length - 1 - i]? = some ns[ns.length - 1 - i] := List.getElem?_eq_getElem (by omega)
      have hx2 : ns.reverse[i]? = some ns[ns.length - 1 - i] := by rw [List.getElem?_reverse hi']; exact hx
      walk_at "rd"
      refine Vb.r_ixL hlG (Vb.at_lit (ns.length - 1 - i) (by omega) (Vb.getV (by omega))) ?_
      refine ⟨_, h, Vb.size_lt (by rw [List.length_map, List.length_take, List.length_reverse]; omega), Vb.same_mut e nD, ?_⟩
      rw [upd_same, List.take_add_one, hx2, List.map_append]
      rfl
    rintro H8 ⟨e8, hD⟩
    rw [List.take_of_length_le (by rw [List.length_reverse]; omega)] at hD
    have e78 := e7.trans e8
    have hm8 := e78.seq hm4
    walk_at "rd"
    intro D2 nD2
    refine Vb.lcw_range (fun i H' => Same H8 H' ∧ H' D2 = some (.lst ((rs.reverse.take i).map V.int))) ⟨Vb.same_new nD2, upd_same⟩ (fun x => rfl) ?_ ?_
    · rintro i G hi ⟨e, h⟩
      have hi' : i < rs.length := by omega
      have hmG := e.seq hm8
      have hx : rs[rs.length - 1 - i]? = some rs[rs.length - 1 - i] := List.getElem?_eq_getElem (by omega)
      have hx2 : rs.reverse[i]? = some rs[rs.length - 1 - i] := by rw [List.getElem?_reverse hi']; exact hx
      walk_at "rd"
      refine Vb.r_ixL hmG (Vb.at_lit (rs.length - 1 - i) (by omega) (Vb.getV (by omega))) ?_
      refine ⟨_, h, Vb.size_lt (by rw [List.length_map, List.length_take, List.length_reverse]; omega), Vb.same_mut e nD2, ?_⟩
      rw [upd_same, List.take_add_one, hx2, List.map_append]
      rfl
    rintro H9 ⟨e9, hD2⟩
    rw [List.take_of_length_le (by rw [List.length_reverse]; omega)] at hD2
    walk_at "rd"
    refine use_fromres (.inl (Vb.sq_of (e9 _ _ hD))) (.inl (Vb.sq_of hD2)) r.rev (by rw [List.length_reverse]; exact hn) hq.rev fun f' H10 e10 hf' => ?_
    obtain rfl := crt_rev r hq hf hf'
    have e := e78.trans (e9.trans e10)
    walk_at "rd"
    refine use_same (.int _) (.int _) (.int _) trivial ?_
    exact q _ (F4.trans (Vb.Fr.of e)) (S4.same e)
end
end K
namespace K
open PySem PySem.Spec PyProof.Rows L2

abbrev N__law_bent_rests : List Str := ["store", "primes", "rests", "at", "bent", "value"]
theorem sc__law_bent_rests : FnScope N__law_bent_rests ["store", "primes", "rests"] (defScope s__law_bent_rests) := ⟨rfl, rfl, rfl, by decide +kernel, rfl, by decide +kernel, by decide +kernel⟩
section
variable {P : Program} {w : World} {K : PySem.W.Frag} {mg : Str → Option Value} {base : Heap}
/-- rests with a first bad one at a known place -/
structure BadRests (K : PySem.W.Frag) (H : Hp) (ns : List Int) (xs : List V) (ds : List PyData) (v : V) (d : PyData) : Prop where
  all : DpAll K H xs ds
  one : Dp K H v d
  ok : Vb.DOk 4 d
  len : xs.length = ns.length
  at_ : ∃ (i : Nat) (p : Int), ns[i]? = some p ∧ xs[i]? = some v ∧ ds[i]? = some d ∧ inField p d = false ∧ ∀ (j : Nat) q e, j < i → ns[j]? = some q → ds[j]? = some e → inField q e = true
theorem BadRests.same {H H' : Hp} {ns : List Int} {xs : List V} {ds : List PyData} {v : V} {d : PyData} (b : BadRests K H ns xs ds v d) (e : Same H H') : BadRests K H' ns xs ds v d := ⟨Vb.dpa_same e _ _ b.all, Vb.dp_same e _ _ b.one, b.ok, b.len, b.at_⟩
theorem BadRests.put {H : Hp} {ns : List Int} {xs : List V} {ds : List PyData} {v v2 : V} {d d2 : PyData} {i k : Nat} {p : Int} (b : BadRests K H ns xs ds v d) (h0 : ns[i]? = some p) (h1 : xs[i]? = some v) (h2 : ds[i]? = some d) (hb : inField p d = false) (h3 : ∀ (j : Nat) q e, j < i → ns[j]? = some q → ds[j]? = some e → inField q e = true) (ik : i < k) (g : Dp K H v2 d2) : BadRests K H ns (xs.set k v2) (ds.set k d2) v d :=
  ⟨dpa_set b.all g, b.one, b.ok, by rw [List.length_set]; exact b.len, i, p, h0, by rw [List.getElem?_set_ne (by omega)]; exact h1, by rw [List.getElem?_set_ne (by omega)]; exact h2, hb, fun j q e hj hq he => h3 j q e hj hq (by rw [List.getElem?_set_ne (by omega)] at he; exact he)⟩
def sp_bentrests (K : PySem.W.Frag) : Sp := fun vs H Q _ => ∃ (st l m : Addr) (ns rs : List Int), vs = [.ref st, .ref l, .ref m] ∧ Vb.StoreAt H st ∧ l ≠ st ∧ m ≠ st ∧ SqL K H l (ns.map V.int) ∧ SqL K H m (rs.map V.int) ∧ (∀ p ∈ ns, 1 ≤ p) ∧ 0 < ns.length ∧ ns.length ≤ 8 ∧ Rests ns rs ∧
  ∀ (t b : Addr) (v : V) (d : PyData) (xs : List V) (ds : List PyData) (H' : Hp), t ≠ st → b ≠ st → H' t = some (.tup [.ref b, v]) → H' b = some (.lst xs) → BadRests K (Vb.offs [st] H') ns xs ds v d → Vb.Fr st H H' → Vb.StoreAt H' st → Q (.ref t) H'
theorem ok_bentrests (T : Txt K mg) : FnOk P w K mg base (L2N.CX P w) 7 T.f__law_bent_rests T.fd__law_bent_rests ["store", "primes", "rests"] (sp_bentrests K) := by
  have G__law_take := ok_take (P := P) (w := w) (base := base) T
  have G__law_bad_number := ok_badnumber (P := P) (w := w) (base := base) T
  refine Vb.okN T.d__law_bent_rests.F sc__law_bent_rests (fun vs H Q E h => ?_) (fun cdv A outer s H vs Q E hr h => ?_)
  · obtain ⟨st, l, m, ns, rs, rfl, _⟩ := h
    rfl
  · obtain ⟨st, l, m, ns, rs, rfl, hS, ml, mm, hl, hm, hp, n0, hn, hq, q⟩ := h
    have hql := hq.l
    have lr : (rs.map V.int).length = ns.length := (List.length_map ..).trans hql
    refine ⟨_, (pss_cons (ps_set (i := 3) sc__law_bent_rests.nd rfl (by first | exact Or.inl rfl | exact Or.inr rfl) (pe_callS G__law_take (hr.mono (by first | decide | omega)) (by rfl) T.d__law_take.g T.d__law_take.F.kp T.d__law_take.b (fun σ => L2N.passAt (L2N.takes_of rfl rfl rfl rfl) σ) (pa_cons (pv 0) (pa_cons (pe_callB Vb.call_len (by rfl) T.n_len (by decide +kernel) (pa_cons (pv 2) pa_nil)) pa_nil))))
      (pss_cons (ps_set (i := 4) sc__law_bent_rests.nd rfl (by first | exact Or.inl rfl | exact Or.inr rfl) (pe_callTy Vb.call_list (by rfl) T.n_list (by decide +kernel) (pa_cons (pv 2) pa_nil)))
      (pss_cons (ps_set (i := 5) sc__law_bent_rests.nd rfl (by first | exact Or.inl rfl | exact Or.inr rfl) (pe_callS G__law_bad_number (hr.mono (by first | decide | omega)) (by rfl) T.d__law_bad_number.g T.d__law_bad_number.F.kp T.d__law_bad_number.b (fun σ => L2N.passAt (L2N.takes_of rfl rfl rfl rfl) σ) (pa_cons (pv 0) (pa_cons (pe_ix ix_list (pv 1) (pv 3) (fun _ _ => rfl)) pa_nil))))
      (pss_cons (ps_asg (pv 5) (pg_sub (pv 4) (pv 3) set_list))
      (pss_cons (ps_if (PW.pt (pw_and (pt_cmpR op_lt (pe_op op_add (pv 3) pe_int) (pe_callB Vb.call_len (by rfl) T.n_len (by decide +kernel) (pa_cons (pv 4) pa_nil)) (nomark _)) (pw_and1 (pt_cmpR op_eq (pe_callS G__law_take (hr.mono (by first | decide | omega)) (by rfl) T.d__law_take.g T.d__law_take.F.kp T.d__law_take.b (fun σ => L2N.passAt (L2N.takes_of rfl rfl rfl rfl) σ) (pa_cons (pv 0) (pa_cons pe_int pa_nil))) pe_int (nomark _))))) (pss_one (ps_asg (pe_callS G__law_bad_number (hr.mono (by first | decide | omega)) (by rfl) T.d__law_bad_number.g T.d__law_bad_number.F.kp T.d__law_bad_number.b (fun σ => L2N.passAt (L2N.takes_of rfl rfl rfl rfl) σ) (pa_cons (pv 0) (pa_cons (pe_ix ix_list (pv 1) (pe_op op_add (pv 3) pe_int) (fun _ _ => rfl)) pa_nil))) (pg_sub (pv 4) (pe_op op_add (pv 3) pe_int) set_list))) pss_nil)
      (pss_one (ps_ret (pe_tup (pa_cons (pv 4) (pa_cons (pv 5) pa_nil)))))))))), ?_⟩
    (change (_ : L2.TS) _ ([some (.ref st), some (.ref l), some (.ref m), none, none, none] : L2.St) _); try dsimp only [L2.cxOf, L2H.cxH]
    walk_at "rd"
    refine use_take hS (by rw [lr]; omega) fun t H1 t1 t2 t3 f1 S1 => ?_
    rw [lr] at t2 t3
    obtain ⟨i, rfl⟩ : ∃ i : Nat, t = (i : Int) := ⟨t.toNat, by omega⟩
    have hi : i < ns.length := by omega
    have hpi : ns[i]? = some ns[i] := List.getElem?_eq_getElem hi
    have hm1 := f1.seq mm hm
    walk_at "rd"
    refine ⟨m, _, rfl, .inl hm1, fun B nB => ?_⟩
    have eB := Vb.same_new (o := .lst (rs.map V.int)) nB
    have hB : (upd H1 B (.lst (rs.map V.int))) B = some (.lst (rs.map V.int)) := upd_same
    have mB := S1.ne nB
    have nBH := fr_none f1 mB nB
    have S2 := S1.same eB
    have F2 := f1.trans (Vb.Fr.of (st := st) eB)
    generalize upd H1 B _ = H2 at hB S2 F2 ⊢
    walk_at "rd"
    refine Vb.r_ixL (F2.seq ml hl) (Vb.at_lit i (by omega) (Vb.getV hi)) ?_
    walk_at "rd"
    refine use_badnumber S2 (hp _ (List.getElem_mem hi)) fun v d H3 hbad hok f3 S3 hdp => ?_
    have dv := hdp [B] (Vb.Trk.one hB)
    have hB3 := f3.k _ _ mB hB
    have F3 := F2.trans f3
    walk_at "rd"
    refine Vb.r_setL hB3 (Vb.ix_nat i rfl (by rw [lr]; omega)) ?_
    have hB4 : (upd H3 B (.lst ((rs.map V.int).set i v))) B = some (.lst ((rs.map V.int).set i v)) := upd_same
    have S4 : Vb.StoreAt (upd H3 B (.lst ((rs.map V.int).set i v))) st := hS.mut nBH F3 S3
    have F4 : Vb.Fr st H (upd H3 B (.lst ((rs.map V.int).set i v))) := F3.mut nBH
    have dv4 := Vb.dp_same (offs_updm (Z := [st, B]) (o := .lst ((rs.map V.int).set i v)) (List.mem_cons_of_mem _ (List.mem_cons_self ..))) _ _ dv
    generalize upd H3 B _ = H4 at hB4 S4 F4 dv4 ⊢
    have l4 : ((rs.map V.int).set i v).length = ns.length := by rw [List.length_set, lr]
    have hx1 : ((rs.map V.int).set i v)[i]? = some v := by rw [List.getElem?_set_self (by rw [lr]; omega)]
    have hx2 : ((rs.map PyData.int).set i d)[i]? = some d := by rw [List.getElem?_set_self (by rw [List.length_map]; omega)]
    have hx3 : ∀ (j : Nat) q e, j < i → ns[j]? = some q → ((rs.map PyData.int).set i d)[j]? = some e → inField q e = true := by
      intro j q e hj hq' he
      rw [List.getElem?_set_ne (by omega), List.getElem?_map] at he
      cases hz : rs[j]? with
      | none => rw [hz] at he; cases he
      | some c =>
        rw [hz] at he; cases he
        exact inField_int.mpr (hq.b j q c hq' hz)
    have b4 : BadRests K (Vb.offs [st, B] H4) ns ((rs.map V.int).set i v) ((rs.map PyData.int).set i d) v d := ⟨dpa_set (Vb.dpa_ints _) dv4, dv4, hok, l4, i, ns[i], hpi, hx1, hx2, hbad, hx3⟩
    have fin : ∀ {Hn : Hp} {t : Addr} {xs : List V} {ds : List PyData}, Hn t = none → Hn B = some (.lst xs) → BadRests K (Vb.offs [st, B] Hn) ns xs ds v d → Vb.Fr st H Hn → Vb.StoreAt Hn st → Q (.ref t) (upd Hn t (.tup [.ref B, v])) := fun {Hn t xs ds} nt hB b F S => q t B v d xs ds _ (S.ne nt) mB upd_same (Vb.same_new nt _ _ hB) ((b.same (offs_less1)).same (Vb.offs_same (Vb.same_new nt))) (F.trans (Vb.Fr.of (Vb.same_new nt))) (S.same (Vb.same_new nt))
    walk_at "rd"
    refine Vb.r_ite (fun c2 => ?_) (fun c2 => ?_)
    · rw [l4] at c2
      walk_at "rd"
      refine use_take S4 (by decide) fun u H5 _ _ _ f5 S5 => ?_
      have hB5 := f5.k _ _ mB hB4
      have F5 := F4.trans f5
      have b5 := b4.same (Vb.offs_fr f5 (List.mem_cons_self ..))
      walk_at "rd"
      refine Vb.r_ite (fun c3 => ?_) (fun c3 => ?_)
      · have hi1 : i + 1 < ns.length := by omega
        walk_at "rd"
        refine Vb.r_ixL (F5.seq ml hl) (Vb.at_lit (i + 1) (by omega) (Vb.getV hi1)) ?_
        walk_at "rd"
        refine use_badnumber S5 (hp _ (List.getElem_mem hi1)) fun v2 d2 H6 _ _ f6 S6 hdp => ?_
        have dw := hdp [B] (Vb.Trk.one hB5)
        have hB6 := f6.k _ _ mB hB5
        have F6 := F5.trans f6
        have b6 := b5.same (Vb.offs_fr f6 (List.mem_cons_self ..))
        obtain ⟨k, hk⟩ : ∃ k : Nat, ((i : Int) + 1) = (k : Int) := ⟨i + 1, by omega⟩
        walk_at "rd"
        refine Vb.r_setL hB6 (Vb.ix_nat k hk (by rw [l4]; omega)) ?_
        generalize hL : ((rs.map V.int).set i v).set k v2 = L
        have hB8 : (upd H6 B (.lst L)) B = some (.lst L) := upd_same
        have b8 := (b6.put (k := k) hpi hx1 hx2 hbad hx3 (by omega) dw).same (offs_updm (Z := [st, B]) (o := .lst L) (List.mem_cons_of_mem _ (List.mem_cons_self ..)))
        rw [hL] at b8
        have S8 := hS.mut (o := .lst L) nBH F6 S6
        have F8 := F6.mut (o := .lst L) nBH
        generalize upd H6 B _ = H8 at hB8 S8 F8 b8 ⊢
        walk_at "rd"
        refine ⟨Vb.size_ok (by show 2 ≤ 16777216; decide), fun t nt => ?_⟩
        walk_at "rd"
        exact fin nt hB8 b8 F8 S8
      · walk_at "rd"
        refine ⟨Vb.size_ok (by show 2 ≤ 16777216; decide), fun t nt => ?_⟩
        walk_at "rd"
        exact fin nt hB5 b5 F5 S5
    · rw [if_neg (by decide)]
      walk_at "rd"
      refine ⟨Vb.size_ok (by show 2 ≤ 16777216; decide), fun t nt => ?_⟩
      walk_at "rd"
      exact fin nt hB4 b4 F4 S4
end
end K
namespace K
open PySem PySem.Spec PyProof.Rows L2
section
variable {K : PySem.W.Frag}
theorem bad_use {L R NP O W N : Addr} {H : Hp} {xs : List V} {ds : List PyData} {nm : Str} {o : V} {od : PyData} {A : VK → XK → Prop} (b : BadPr K H xs ds nm o od)
    (k : ∀ (Q' : VK) (E' : XK), (8 < xs.length → E' (.ref L) none H) → (xs.length ≤ 8 → ∀ (i : Nat) (v : V) (d : PyData), xs[i]? = some v → ds[i]? = some d → (∀ (j : Nat) e, j < i → ds[j]? = some e → field e = true) → field d = false → ∀ dd : Addr, H dd = none → E' (.ref NP) (some dd) (upd H dd (.xd [("value", v)]))) →
      (xs.length ≤ 8 → ∀ ns : List Int, xs = ns.map V.int → ds = ns.map PyData.int → (∀ n ∈ ns, Vb.Prm n ∧ n ≤ 101) → ¬ ns.Nodup ∧ E' (.ref R) none H) → A Q' E') : Refused L R NP O W N nm o H A := by
  have no : ∀ {ns : List Int} {i : Nat} {d : PyData}, (∀ n ∈ ns, Vb.Prm n ∧ n ≤ 101) → (ns.map PyData.int)[i]? = some d → field d = false → False := fun {ns i d} hp h2 h4 => by
    rw [List.getElem?_map] at h2
    cases hz : ns[i]? with
    | none => rw [hz] at h2; cases h2
    | some c =>
      rw [hz] at h2
      cases h2
      have := hp c (List.mem_of_getElem? hz)
      rw [field_yes this.1 this.2] at h4
      cases h4
  rcases b.why with ⟨e, l⟩ | ⟨e, l, ms, k1, k2, k3, k4⟩ | ⟨e, l, bad, i', g1, g2, g3⟩
  · exact .inl ⟨e, fun Q' E' hE => k Q' E' (fun _ => hE H (Same.refl _)) (fun h => by omega) (fun h => by omega)⟩
  · refine .inr (.inl ⟨e, fun Q' E' hE => k Q' E' (fun h => by omega) (fun _ i v d _ h2 _ h4 => ?_) fun _ ns e1 _ _ => ?_⟩)
    · rw [k2] at h2
      exact (no k3 h2 h4).elim
    · obtain rfl := ints_inj (k1.symm.trans e1)
      exact ⟨k4, hE H (Same.refl _)⟩
  · refine .inr (.inr (.inl ⟨e, fun Q' E' hE => k Q' E' (fun h => by omega) (fun _ i v d h1 h2 h3 h4 dd nd => ?_) fun _ ns _ e2 e3 => ?_⟩))
    · have ii : i = i' := by
        rcases Nat.lt_trichotomy i i' with z | z | z
        · rw [g3 i d z h2] at h4; cases h4
        · exact z
        · rw [h3 i' od z g2] at bad; cases bad
      subst ii
      rw [h1] at g1
      cases g1
      exact hE H dd (Same.refl _) nd
    · rw [e2] at g2
      exact (no e3 g2 bad).elim
theorem ref_out {L R NP O W N l : Addr} {H : Hp} {xs : List V} {ds : List PyData} {v u : V} {d : PyData} (hv : Dp K H v d) (hl : Vb.SqA K H l xs) (hd : DpAll K H xs ds) (bad : inRange 0 big300 d = false) :
    Refused L R NP O W N "OutOfRange" u H (fun Q' E' => sp_lawasked K NP N R L W O [.int 0, v, .ref l] H Q' E') :=
  .inr (.inr (.inr (.inl ⟨rfl, fun Q' E' hE => ⟨0, v, .ref l, rfl, fun _ => ⟨v, d, l, xs, ds, rfl, hv, hl, hd, fun _ => hE _ (Same.refl _), fun z => by rw [bad] at z; cases z⟩, fun z => absurd rfl z⟩⟩)))
theorem ref_res {L R NP O W N l : Addr} {H : Hp} {xs : List V} {ds : List PyData} {nm : Str} {o : V} {od : PyData} {n : Int} (hl : Vb.SqA K H l xs) (b : BadPr K H xs ds nm o od) (hn : 0 ≤ n ∧ n ≤ big300) :
    Refused L R NP O W N nm o H (fun Q' E' => sp_lawasked K NP N R L W O [.int 0, .int n, .ref l] H Q' E') :=
  bad_use b fun Q' E' a1 a2 a3 => ⟨0, .int n, .ref l, rfl, fun _ => ⟨.int n, .int n, l, xs, ds, rfl, .int n, hl, b.all, (fun z => by rw [inRange_int.mpr hn] at z; cases z), fun _ => ⟨a1, a2, fun h8 ns e1 e2 e3 => ⟨fun _ => (a3 h8 ns e1 e2 e3).2, fun nd => absurd nd (a3 h8 ns e1 e2 e3).1⟩⟩⟩, fun z => absurd rfl z⟩
theorem ref_from {L R NP O W N l m : Addr} {H : Hp} {xs ys : List V} {ds es : List PyData} {nm : Str} {o : V} {od : PyData} (hl : Vb.SqA K H l xs) (b : BadPr K H xs ds nm o od) (hm : Vb.SqA K H m ys) (he : DpAll K H ys es) :
    Refused L R NP O W N nm o H (fun Q' E' => sp_lawasked K NP N R L W O [.int 1, .ref l, .ref m] H Q' E') :=
  bad_use b fun Q' E' a1 a2 a3 => ⟨1, .ref l, .ref m, rfl, (fun z => by cases z), fun _ => ⟨l, m, xs, ys, ds, es, rfl, hl, b.all, hm, he, a1, a2, fun h8 ns e1 e2 e3 => ⟨fun _ => (a3 h8 ns e1 e2 e3).2, fun nd => absurd nd (a3 h8 ns e1 e2 e3).1⟩⟩⟩
theorem ref_places {L R NP O W N l m : Addr} {H : Hp} {ns : List Int} {ys : List V} {es : List PyData} {u : V} (hl : Vb.SqA K H l (ns.map V.int)) (r : PrRow ns) (hn : ns.length ≤ 8) (hm : Vb.SqA K H m ys) (he : DpAll K H ys es) (ne : ys.length ≠ ns.length) :
    Refused L R NP O W N "WrongPlaces" u H (fun Q' E' => sp_lawasked K NP N R L W O [.int 1, .ref l, .ref m] H Q' E') := by
  refine .inr (.inr (.inr (.inr (.inl ⟨rfl, fun Q' E' hE => ⟨1, .ref l, .ref m, rfl, (fun z => by cases z), fun _ => ⟨l, m, _, ys, ns.map PyData.int, es, rfl, hl, Vb.dpa_ints ns, hm, he, (fun z => by rw [List.length_map] at z; omega), (fun _ i v d _ h2 _ h4 => (r.no h2 h4).elim), fun _ ms k1 k2 _ => ?_⟩⟩⟩))))
  obtain rfl := ints_inj k1
  exact ⟨fun z => absurd r.nd z, fun _ => ⟨fun _ => hE H (Same.refl _), fun z => absurd z ne⟩⟩
theorem ref_bent {L R NP O W N l m : Addr} {H : Hp} {ns : List Int} {ys : List V} {es : List PyData} {u : V} {ud : PyData} (hl : Vb.SqA K H l (ns.map V.int)) (r : PrRow ns) (hn : ns.length ≤ 8) (hm : Vb.SqA K H m ys) (b : BadRests K H ns ys es u ud) :
    Refused L R NP O W N "NotInField" u H (fun Q' E' => sp_lawasked K NP N R L W O [.int 1, .ref l, .ref m] H Q' E') := by
  refine .inr (.inr (.inr (.inr (.inr ⟨rfl, fun Q' E' hE => ⟨1, .ref l, .ref m, rfl, (fun z => by cases z), fun _ => ⟨l, m, _, ys, ns.map PyData.int, es, rfl, hl, Vb.dpa_ints ns, hm, b.all, (fun z => by rw [List.length_map] at z; omega), (fun _ i v d _ h2 _ h4 => (r.no h2 h4).elim), fun _ ms k1 k2 _ => ?_⟩⟩⟩))))
  obtain rfl := ints_inj k1
  obtain ⟨i', p', g0, g1, g2, bad, g3⟩ := b.at_
  refine ⟨fun z => absurd r.nd z, fun _ => ⟨fun z => absurd b.len z, fun _ => ⟨fun i p v d h0 h1 h2 h3 h4 H1 dd e nd => ?_, fun rs k3 k4 k5 f H' _ _ => ?_⟩⟩⟩
  · have ii : i = i' := by
      rcases Nat.lt_trichotomy i i' with z | z | z
      · rw [g3 i p d z h0 h2] at h4; cases h4
      · exact z
      · rw [h3 i' p' ud z g0 g2] at bad; cases bad
    subst ii
    rw [h1] at g1
    cases g1
    exact hE H1 dd e nd
  · exfalso
    rw [k4, List.getElem?_map] at g2
    cases hz : rs[i']? with
    | none => rw [hz] at g2; cases g2
    | some c =>
      rw [hz] at g2
      cases g2
      rw [inField_int.mpr (k5 i' p' c g0 hz)] at bad
      cases bad
theorem dpa_rep {H : Hp} {v : V} {d : PyData} (h : Dp K H v d) : ∀ n : Nat, DpAll K H (List.replicate n [v]).flatten (List.replicate n d)
  | 0 => .nil
  | n + 1 => by
    rw [List.replicate_succ, List.replicate_succ, List.flatten_cons]
    exact .cons h (dpa_rep h n)
theorem cut_drop {xs : List V} {n : Nat} (h : n ≤ xs.length) : cutV xs (some (n : Int)) none = xs.drop n := by
  unfold cutV
  have e : HT.sIx xs.length 0 (some (n : Int)) = n := by
    show (if (n : Int) < 0 then ((n : Int) + (xs.length : Int)).toNat else min (n : Int).toNat xs.length) = n
    rw [if_neg (by omega)]
    omega
  rw [e, HT.sIx_none]
  exact List.take_of_length_le (by rw [List.length_drop]; exact Nat.le_refl _)
theorem dpa_app {H : Hp} {ys : List V} {es : List PyData} : ∀ {ds : List PyData} {xs : List V}, DpAll K H xs ds → DpAll K H ys es → DpAll K H (xs ++ ys) (ds ++ es)
  | [], _, h, g => by cases h; exact g
  | d :: ds, _, h, g => by cases h with | cons h1 h2 => exact .cons h1 (dpa_app h2 g)
theorem dpa_drop {H : Hp} {ds : List PyData} {xs : List V} (h : DpAll K H xs ds) : DpAll K H (xs.drop 1) (ds.drop 1) := by
  cases h with
  | nil => exact .nil
  | cons h1 h2 => exact h2
end
end K
namespace K
open PySem PySem.Spec PyProof.Rows L2







abbrev N__law_refused : List Str := ["store", "primes", "rests", "wrong", "bad", "some", "longer", "bent", "short"]
theorem sc__law_refused : FnScope N__law_refused ["store", "primes", "rests"] (defScope s__law_refused) := ⟨rfl, rfl, rfl, by decide +kernel, rfl, by decide +kernel, by decide +kernel⟩
section
variable {P : Program} {w : World} {K : PySem.W.Frag} {mg : Str → Option Value} {base : Heap}
def sp_refused (K : PySem.W.Frag) : Sp := fun vs H Q _ => ∃ (st l m : Addr) (ns rs : List Int), vs = [.ref st, .ref l, .ref m] ∧ Vb.StoreAt H st ∧ l ≠ st ∧ m ≠ st ∧ SqL K H l (ns.map V.int) ∧ SqL K H m (rs.map V.int) ∧ PrRow ns ∧ ns.length ≤ 8 ∧ Rests ns rs ∧ ∀ H', Vb.Fr st H H' → Vb.StoreAt H' st → Q (.bl true) H'
theorem ok_refused (T : Txt K mg) : FnOk P w K mg base (L2N.CX P w) 9 T.f__law_refused T.fd__law_refused ["store", "primes", "rests"] (sp_refused K) := by
  have G__law_pick := ok_pick (P := P) (w := w) (base := base) T
  have G__law_bad_integer := ok_badinteger (P := P) (w := w) (base := base) T
  have G__law_bad_primes := ok_badprimes (P := P) (w := w) (base := base) T
  have G__law_told := ok_told (P := P) (w := w) (base := base) T
  have G__law_row := ok_row (P := P) (w := w) (base := base) T
  have G__law_any_count := ok_anycount (P := P) (w := w) (base := base) T
  have G__law_bent_rests := ok_bentrests (P := P) (w := w) (base := base) T
  refine Vb.okN T.d__law_refused.F sc__law_refused (fun vs H Q E h => ?_) (fun cdv A outer s H vs Q E hr h => ?_)
  · obtain ⟨st, l, m, ns, rs, rfl, _⟩ := h
    rfl
  · obtain ⟨st, l, m, ns, rs, rfl, hS, ml, mm, hl, hm, r, hn, hq, q⟩ := h
    have hql := hq.l
    refine ⟨_, (pss_cons (ps_set (i := 3) sc__law_refused.nd rfl (by first | exact Or.inl rfl | exact Or.inr rfl) (pe_callS G__law_bad_integer (hr.mono (by first | decide | omega)) (by rfl) T.d__law_bad_integer.g T.d__law_bad_integer.F.kp T.d__law_bad_integer.b (fun σ => L2N.passAt (L2N.takes_of rfl rfl rfl rfl) σ) (pa_cons (pv 0) (pa_cons pe_int (pa_cons (pe_op Vb.op_powB (pe_op Vb.op_powB pe_int pe_int) pe_int) pa_nil)))))
      (pss_cons (ps_set (i := 4) sc__law_refused.nd rfl (by first | exact Or.inl rfl | exact Or.inr rfl) (pe_callS G__law_bad_primes (hr.mono (by first | decide | omega)) (by rfl) T.d__law_bad_primes.g T.d__law_bad_primes.F.kp T.d__law_bad_primes.b (fun σ => L2N.passAt (L2N.takes_of rfl rfl rfl rfl) σ) (pa_cons (pv 0) pa_nil)))
      (pss_cons (ps_if (pt_cmpR (op_neD hr.units) (pe_callS G__law_told (hr.mono (by first | decide | omega)) (by rfl) T.d__law_told.g T.d__law_told.F.kp T.d__law_told.b (fun σ => L2N.passAt (L2N.takes_of rfl rfl rfl rfl) σ) (pa_cons pe_int (pa_cons (pv 3) (pa_cons (pe_callS G__law_pick (hr.mono (by first | decide | omega)) (by rfl) T.d__law_pick.g T.d__law_pick.F.kp T.d__law_pick.b (fun σ => L2N.passAt (L2N.takes_of rfl rfl rfl rfl) σ) (pa_cons (pv 0) (pa_cons (pe_lst (pa_cons (pv 1) (pa_cons (pe_ix ix_tup (pv 4) pe_int (fun _ _ => rfl)) pa_nil))) pa_nil))) (pa_cons pe_non pa_nil))))) (pe_lst (pa_cons pe_str pa_nil)) (nomark _)) (pss_one (ps_ret pe_bl)) pss_nil)
      (pss_cons (ps_if (pt_cmpR (op_neD hr.units) (pe_callS G__law_told (hr.mono (by first | decide | omega)) (by rfl) T.d__law_told.g T.d__law_told.F.kp T.d__law_told.b (fun σ => L2N.passAt (L2N.takes_of rfl rfl rfl rfl) σ) (pa_cons pe_int (pa_cons (pe_callS G__law_any_count (hr.mono (by first | decide | omega)) (by rfl) T.d__law_any_count.g T.d__law_any_count.F.kp T.d__law_any_count.b (fun σ => L2N.passAt (L2N.takes_of rfl rfl rfl rfl) σ) (pa_cons (pv 0) pa_nil)) (pa_cons (pe_callS G__law_row (hr.mono (by first | decide | omega)) (by rfl) T.d__law_row.g T.d__law_row.F.kp T.d__law_row.b (fun σ => L2N.passAt (L2N.takes_of rfl rfl rfl rfl) σ) (pa_cons (pv 0) (pa_cons (pe_ix ix_tup (pv 4) pe_int (fun _ _ => rfl)) pa_nil))) (pa_cons (pe_ix ix_tup (pv 4) pe_int (fun _ _ => rfl)) pa_nil))))) (pe_lst (pa_cons (pe_ix ix_tup (pv 4) pe_int (fun _ _ => rfl)) pa_nil)) (nomark _)) (pss_one (ps_ret pe_bl)) pss_nil)
      (pss_cons (ps_set (i := 5) sc__law_refused.nd rfl (by first | exact Or.inl rfl | exact Or.inr rfl) (pe_callS G__law_pick (hr.mono (by first | decide | omega)) (by rfl) T.d__law_pick.g T.d__law_pick.F.kp T.d__law_pick.b (fun σ => L2N.passAt (L2N.takes_of rfl rfl rfl rfl) σ) (pa_cons (pv 0) (pa_cons (pe_lst (pa_cons (pe_op op_rep (pe_lst (pa_cons pe_int pa_nil)) (pe_callB Vb.call_len (by rfl) T.n_len (by decide +kernel) (pa_cons (pe_ix ix_tup (pv 4) pe_int (fun _ _ => rfl)) pa_nil))) (pa_cons (pe_lst pa_nil) (pa_cons (pe_op op_rep (pe_lst (pa_cons pe_non pa_nil)) (pe_callB Vb.call_len (by rfl) T.n_len (by decide +kernel) (pa_cons (pe_ix ix_tup (pv 4) pe_int (fun _ _ => rfl)) pa_nil))) pa_nil)))) pa_nil))))
      (pss_cons (ps_if (pt_cmpR (op_neD hr.units) (pe_callS G__law_told (hr.mono (by first | decide | omega)) (by rfl) T.d__law_told.g T.d__law_told.F.kp T.d__law_told.b (fun σ => L2N.passAt (L2N.takes_of rfl rfl rfl rfl) σ) (pa_cons pe_int (pa_cons (pe_callS G__law_row (hr.mono (by first | decide | omega)) (by rfl) T.d__law_row.g T.d__law_row.F.kp T.d__law_row.b (fun σ => L2N.passAt (L2N.takes_of rfl rfl rfl rfl) σ) (pa_cons (pv 0) (pa_cons (pe_ix ix_tup (pv 4) pe_int (fun _ _ => rfl)) pa_nil))) (pa_cons (pv 5) (pa_cons (pe_ix ix_tup (pv 4) pe_int (fun _ _ => rfl)) pa_nil))))) (pe_lst (pa_cons (pe_ix ix_tup (pv 4) pe_int (fun _ _ => rfl)) pa_nil)) (nomark _)) (pss_one (ps_ret pe_bl)) pss_nil)
      (pss_cons (ps_set (i := 6) sc__law_refused.nd rfl (by first | exact Or.inl rfl | exact Or.inr rfl) (pe_op op_cat (pe_callTy Vb.call_list (by rfl) T.n_list (by decide +kernel) (pa_cons (pv 2) pa_nil)) (pe_lst (pa_cons (pe_callS G__law_pick (hr.mono (by first | decide | omega)) (by rfl) T.d__law_pick.g T.d__law_pick.F.kp T.d__law_pick.b (fun σ => L2N.passAt (L2N.takes_of rfl rfl rfl rfl) σ) (pa_cons (pv 0) (pa_cons (pe_lst (pa_cons pe_int (pa_cons pe_int (pa_cons (pe_un un_neg pe_int) (pa_cons pe_non pa_nil))))) pa_nil))) pa_nil))))
      (pss_cons (ps_if (pt_cmpR (op_neD hr.units) (pe_callS G__law_told (hr.mono (by first | decide | omega)) (by rfl) T.d__law_told.g T.d__law_told.F.kp T.d__law_told.b (fun σ => L2N.passAt (L2N.takes_of rfl rfl rfl rfl) σ) (pa_cons pe_int (pa_cons (pe_callTy Vb.call_list (by rfl) T.n_list (by decide +kernel) (pa_cons (pv 1) pa_nil)) (pa_cons (pv 6) (pa_cons pe_non pa_nil))))) (pe_lst (pa_cons pe_str pa_nil)) (nomark _)) (pss_one (ps_ret pe_bl)) pss_nil)
      (pss_cons (ps_if (pt_cmpR op_eq (pe_callB Vb.call_len (by rfl) T.n_len (by decide +kernel) (pa_cons (pv 1) pa_nil)) pe_int (nomark _)) (pss_one (ps_ret pe_bl)) pss_nil)
      (pss_cons (ps_set (i := 7) sc__law_refused.nd rfl (by first | exact Or.inl rfl | exact Or.inr rfl) (pe_callS G__law_bent_rests (hr.mono (by first | decide | omega)) (by rfl) T.d__law_bent_rests.g T.d__law_bent_rests.F.kp T.d__law_bent_rests.b (fun σ => L2N.passAt (L2N.takes_of rfl rfl rfl rfl) σ) (pa_cons (pv 0) (pa_cons (pv 1) (pa_cons (pv 2) pa_nil)))))
      (pss_cons (ps_if (pt_cmpR (op_neD hr.units) (pe_callS G__law_told (hr.mono (by first | decide | omega)) (by rfl) T.d__law_told.g T.d__law_told.F.kp T.d__law_told.b (fun σ => L2N.passAt (L2N.takes_of rfl rfl rfl rfl) σ) (pa_cons pe_int (pa_cons (pe_callTy Vb.call_list (by rfl) T.n_list (by decide +kernel) (pa_cons (pv 1) pa_nil)) (pa_cons (pe_callS G__law_row (hr.mono (by first | decide | omega)) (by rfl) T.d__law_row.g T.d__law_row.F.kp T.d__law_row.b (fun σ => L2N.passAt (L2N.takes_of rfl rfl rfl rfl) σ) (pa_cons (pv 0) (pa_cons (pe_ix ix_tup (pv 7) pe_int (fun _ _ => rfl)) pa_nil))) (pa_cons (pe_ix ix_tup (pv 7) pe_int (fun _ _ => rfl)) pa_nil))))) (pe_lst (pa_cons pe_str pa_nil)) (nomark _)) (pss_one (ps_ret pe_bl)) pss_nil)
      (pss_cons (ps_set (i := 8) sc__law_refused.nd rfl (by first | exact Or.inl rfl | exact Or.inr rfl) (pe_callS G__law_pick (hr.mono (by first | decide | omega)) (by rfl) T.d__law_pick.g T.d__law_pick.F.kp T.d__law_pick.b (fun σ => L2N.passAt (L2N.takes_of rfl rfl rfl rfl) σ) (pa_cons (pv 0) (pa_cons (pe_lst (pa_cons (pv 2) (pa_cons (pe_ix ix_tup (pv 7) pe_int (fun _ _ => rfl)) pa_nil))) pa_nil))))
      (pss_one (ps_ret (pe_cmpR (op_eqD hr.units) (pe_callS G__law_told (hr.mono (by first | decide | omega)) (by rfl) T.d__law_told.g T.d__law_told.F.kp T.d__law_told.b (fun σ => L2N.passAt (L2N.takes_of rfl rfl rfl rfl) σ) (pa_cons pe_int (pa_cons (pe_callTy Vb.call_list (by rfl) T.n_list (by decide +kernel) (pa_cons (pv 1) pa_nil)) (pa_cons (pe_callS G__law_row (hr.mono (by first | decide | omega)) (by rfl) T.d__law_row.g T.d__law_row.F.kp T.d__law_row.b (fun σ => L2N.passAt (L2N.takes_of rfl rfl rfl rfl) σ) (pa_cons (pv 0) (pa_cons (pe_slice sl_list (pv 8) (po_some pe_int) po_none) pa_nil))) (pa_cons pe_non pa_nil))))) (pe_lst (pa_cons pe_str pa_nil)) (nomark _)))))))))))))))), ?_⟩
    (change (_ : L2.TS) _ ([some (.ref st), some (.ref l), some (.ref m), none, none, none, none, none, none] : L2.St) _); try dsimp only [L2.cxOf, L2H.cxH]
    walk_at "rd"
    rw [← big300_pow]
    refine use_badinteger hS (by decide +kernel) fun wv wd H1 w1 w2 f1 S1 w3 => ?_
    have w4 := w3 [] Vb.Trk.nil
    walk_at "rd"
    refine ⟨st, rfl, S1, fun t b xs ds nm o od H2 mt mb ht hb BP f2 S2 => ?_⟩
    have F2 := f1.trans f2
    have hnm : PyData.strOk nm = true := by
      have why := BP.why
      rcases why with ⟨e, _⟩ | ⟨e, _⟩ | ⟨e, _⟩ <;> rw [e] <;> decide +kernel
    have w5 := Vb.dp_same (Vb.offs_fr f2 (List.mem_cons_self ..)) _ _ w4
    clear w4 w3 f1 f2 S1
    walk_at "rd"
    refine ⟨Vb.size_ok (by show 2 ≤ 16777216; decide), fun L nL => ?_⟩
    have eL := Vb.same_new (o := .lst [.ref l, .ref b]) nL
    walk_at "rd"
    refine use_pick [.ref l, .ref b] (S2.same eL) (S2.ne nL) (Vb.sq_of upd_same) (by show 2 < 1000000; decide) (by simp) fun i v H3 hi f3 S3 => ?_
    have F3 := (Vb.Fr.of (st := st) eL).trans f3
    have w6 := Vb.dp_off (Vb.dp_same (Vb.offs_fr F3 (List.mem_cons_self ..)) _ _ w5)
    obtain ⟨a, xs', ds', rfl, ha, hda⟩ : ∃ a xs' ds', v = .ref a ∧ Vb.SqA K H3 a xs' ∧ DpAll K H3 xs' ds' := by
      rcases i with _ | _ | i
      · cases (Option.some.inj hi)
        exact ⟨l, _, _, rfl, .inl ((F2.trans F3).seq ml hl), Vb.dpa_ints ns⟩
      · cases (Option.some.inj hi)
        exact ⟨b, _, _, rfl, .inl (Vb.sq_of (F3.k _ _ mb hb)), dpa_off (BP.same (Vb.offs_fr F3 (List.mem_cons_self ..))).all⟩
      · simp at hi
    clear f3 eL nL hi
    walk_at "rd"
    refine ⟨0, wv, .ref a, .non, .none, "OutOfRange", rfl, .non, trivial, ref_out w6 ha hda w1, fun r1 H4 nr1 e4 hr4 => ?_⟩
    walk_at "rd"
    refine ⟨Vb.size_ok (by show 1 ≤ 16777216; decide), fun r2 nr2 => ?_⟩
    have e5 := e4.trans (Vb.same_new (o := .lst [.str "OutOfRange"]) nr2)
    refine ⟨.list [.str "OutOfRange"], .list [.str "OutOfRange"], Vb.dp_lst (Vb.same_new nr2 _ _ hr4) (.cons (.str _) .nil), Vb.dp_lst upd_same (.cons (.str _) .nil), shaped_one (by decide +kernel), shaped_one (by decide +kernel), ?_⟩
    rw [eqv_one]
    have S5 := S3.same e5
    have F5 := F3.trans (Vb.Fr.of (st := st) e5)
    generalize upd H4 r2 _ = H5 at S5 F5 ⊢
    clear e5 nr2 nr1 e4 hr4 ha hda w6 w5 F3 S3
    walk_at "rd"
    refine ⟨st, rfl, S5, fun n H6 hn6 f6 S6 => ?_⟩
    have ht6 := (F5.trans f6).k _ _ mt ht
    have hb6 := (F5.trans f6).k _ _ mb hb
    walk_at "rd"
    refine ⟨st, b, xs, rfl, S6, mb, .inl (Vb.sq_of hb6), fun h H7 mh hh hrow f7 S7 => ?_⟩
    have F7 := F5.trans (f6.trans f7)
    have ht7 := F7.k _ _ mt ht
    have BP7 := (BP.same (Vb.offs_fr F7 (List.mem_cons_self ..))).same Vb.offs_sub
    walk_at "rd"
    refine ⟨0, .int n, .ref h, o, od, nm, rfl, BP7.one, BP7.ok, ref_res hh BP7 hn6, fun r1 H8 nr1 e8 hr8 => ?_⟩
    have ht8 := e8 _ _ ht7
    walk_at "rd"
    refine ⟨Vb.size_ok (by show 1 ≤ 16777216; decide), fun r2 nr2 => ?_⟩
    have e9 := e8.trans (Vb.same_new (o := .lst [.str nm]) nr2)
    refine ⟨.list [.str nm], .list [.str nm], Vb.dp_lst (Vb.same_new nr2 _ _ hr8) (.cons (.str _) .nil), Vb.dp_lst upd_same (.cons (.str _) .nil), shaped_one hnm, shaped_one hnm, ?_⟩
    rw [eqv_one]
    have S9 := S7.same e9
    have F9 := F7.trans (Vb.Fr.of (st := st) e9)
    generalize upd H8 r2 _ = H9 at S9 F9 ⊢
    clear e9 nr2 nr1 e8 hr8 ht8 ht7 BP7 F7 S7 f7 hrow hh mh h ht6 hb6 S6 f6 hn6 F5 S5
    walk_at "rd"
    refine ⟨Vb.size_ok (by show 1 ≤ 16777216; decide), fun Z nZ => ?_⟩
    have eZ := Vb.same_new (o := .lst [.int 0]) nZ
    have hZ : (upd H9 Z (.lst [.int 0])) Z = some (.lst [.int 0]) := upd_same
    have FZ := F9.trans (Vb.Fr.of (st := st) eZ)
    have htZ := FZ.k _ _ mt ht
    have hbZ := Vb.sq_of (K := K) (FZ.k _ _ mb hb)
    walk_at "rd"
    have few := BP.few
    refine Vb.r_repL hZ (by omega) (Vb.size_ok (by simp; omega)) fun R1 nR1 => ?_
    rw [Int.toNat_natCast]
    have eR1 := eZ.trans (Vb.same_new (o := .lst (List.replicate xs.length [V.int 0]).flatten) nR1)
    have hR1 : (upd (upd H9 Z (.lst [.int 0])) R1 (.lst (List.replicate xs.length [V.int 0]).flatten)) R1 = some (.lst (List.replicate xs.length [V.int 0]).flatten) := upd_same
    have mR1 := (S9.same eZ).ne nR1
    clear hbZ htZ FZ hZ eZ nZ
    generalize upd (upd H9 Z _) R1 _ = G1 at eR1 hR1 ⊢
    walk_at "rd"
    refine ⟨Vb.size_ok (by show 0 ≤ 16777216; decide), fun N nN => ?_⟩
    have eN := eR1.trans (Vb.same_new (o := .lst []) nN)
    have hN : (upd G1 N (.lst [])) N = some (.lst []) := upd_same
    have hR1N := Vb.same_new (o := .lst []) nN _ _ hR1
    have mN := (S9.same eR1).ne nN
    generalize upd G1 N _ = G2 at eN hN hR1N ⊢
    walk_at "rd"
    refine ⟨Vb.size_ok (by show 1 ≤ 16777216; decide), fun M nM => ?_⟩
    have eM := eN.trans (Vb.same_new (o := .lst [.non]) nM)
    have hM : (upd G2 M (.lst [.non])) M = some (.lst [.non]) := upd_same
    have hR1M := Vb.same_new (o := .lst [.non]) nM _ _ hR1N
    have hNM := Vb.same_new (o := .lst [.non]) nM _ _ hN
    generalize upd G2 M _ = G3 at eM hM hR1M hNM ⊢
    have FM := F9.trans (Vb.Fr.of (st := st) eM)
    have htM := FM.k _ _ mt ht
    have hbM := Vb.sq_of (K := K) (FM.k _ _ mb hb)
    walk_at "rd"
    refine Vb.r_repL hM (by omega) (Vb.size_ok (by simp; omega)) fun R2 nR2 => ?_
    rw [Int.toNat_natCast]
    have eR2 := eM.trans (Vb.same_new (o := .lst (List.replicate xs.length [V.non]).flatten) nR2)
    have hR2 : (upd G3 R2 (.lst (List.replicate xs.length [V.non]).flatten)) R2 = some (.lst (List.replicate xs.length [V.non]).flatten) := upd_same
    have mR2 := (S9.same eM).ne nR2
    have hR12 := Vb.same_new (o := .lst (List.replicate xs.length [V.non]).flatten) nR2 _ _ hR1M
    have hN2 := Vb.same_new (o := .lst (List.replicate xs.length [V.non]).flatten) nR2 _ _ hNM
    generalize upd G3 R2 _ = G4 at eR2 hR2 hR12 hN2 ⊢
    clear hbM htM FM eM nM hNM hR1M hM eN nN hR1N hN eR1 hR1 nR1
    walk_at "rd"
    refine ⟨Vb.size_ok (by show 3 ≤ 16777216; decide), fun L2 nL2 => ?_⟩
    have eL2 := Vb.same_new (o := .lst [.ref R1, .ref N, .ref R2]) nL2
    walk_at "rd"
    refine use_pick [.ref R1, .ref N, .ref R2] ((S9.same eR2).same eL2) ((S9.same eR2).ne nL2) (Vb.sq_of upd_same) (by show 3 < 1000000; decide) (by simp) fun i v G5 hi f5 S5 => ?_
    have f5 := (Vb.Fr.of (st := st) eL2).trans f5
    have F5 := F9.trans ((Vb.Fr.of (st := st) eR2).trans f5)
    obtain ⟨X, ys, es, rfl, mX, hX, heX⟩ : ∃ X ys es, v = .ref X ∧ X ≠ st ∧ G5 X = some (.lst ys) ∧ ∀ G, DpAll K G ys es := by
      rcases i with _ | _ | _ | i
      · cases (Option.some.inj hi)
        exact ⟨R1, _, _, rfl, mR1, f5.k _ _ mR1 hR12, fun G => dpa_rep (.int 0) _⟩
      · cases (Option.some.inj hi)
        exact ⟨N, _, _, rfl, mN, f5.k _ _ mN hN2, fun G => .nil⟩
      · cases (Option.some.inj hi)
        exact ⟨R2, _, _, rfl, mR2, f5.k _ _ mR2 hR2, fun G => dpa_rep .non _⟩
      · simp at hi
    clear eL2 nL2 hR2 hR12 hN2 nR2 hi mR1 mN mR2 eR2 f5
    have ht5 := F5.k _ _ mt ht
    have hb5 := F5.k _ _ mb hb
    walk_at "rd"
    refine ⟨st, b, xs, rfl, S5, mb, .inl (Vb.sq_of hb5), fun h G6 mh hh hrow f6 S6 => ?_⟩
    have F6 := F5.trans f6
    have ht6 := F6.k _ _ mt ht
    have hX6 := f6.k _ _ mX hX
    have BP6 := (BP.same (Vb.offs_fr F6 (List.mem_cons_self ..))).same Vb.offs_sub
    walk_at "rd"
    refine ⟨1, .ref h, .ref X, o, od, nm, rfl, BP6.one, BP6.ok, ref_from hh BP6 (.inl (Vb.sq_of hX6)) (heX G6), fun r1 G7 nr1 e7 hr7 => ?_⟩
    have ht7 := e7 _ _ ht6
    walk_at "rd"
    refine ⟨Vb.size_ok (by show 1 ≤ 16777216; decide), fun r2 nr2 => ?_⟩
    have e8 := e7.trans (Vb.same_new (o := .lst [.str nm]) nr2)
    refine ⟨.list [.str nm], .list [.str nm], Vb.dp_lst (Vb.same_new nr2 _ _ hr7) (.cons (.str _) .nil), Vb.dp_lst upd_same (.cons (.str _) .nil), shaped_one hnm, shaped_one hnm, ?_⟩
    rw [eqv_one]
    have S8 := S6.same e8
    have F8 := F2.trans (F6.trans (Vb.Fr.of (st := st) e8))
    generalize upd G7 r2 _ = G8 at S8 F8 ⊢
    clear e8 nr2 nr1 e7 hr7 ht7 BP6 hX6 ht6 F6 S6 f6 hrow hh mh h hb5 ht5 hX heX mX F5 S5 F9 S9 few hnm BP hb ht mb mt F2 S2
    have hm8 := F8.seq mm hm
    walk_at "rd"
    refine ⟨m, _, rfl, .inl hm8, fun B nB => ?_⟩
    have eB := Vb.same_new (o := .lst (rs.map V.int)) nB
    have hB : (upd G8 B (.lst (rs.map V.int))) B = some (.lst (rs.map V.int)) := upd_same
    have mB := S8.ne nB
    generalize upd G8 B _ = G9 at eB hB ⊢
    walk_at "rd"
    refine ⟨Vb.size_ok (by show 4 ≤ 16777216; decide), fun L3 nL3 => ?_⟩
    have eL3 := Vb.same_new (o := .lst [.int 0, .int 1, .int (-1), .non]) nL3
    walk_at "rd"
    refine use_pick [.int 0, .int 1, .int (-1), .non] ((S8.same eB).same eL3) ((S8.same eB).ne nL3) (Vb.sq_of upd_same) (by show 4 < 1000000; decide) (by simp) fun i v G10 hi f10 S10 => ?_
    obtain ⟨vd, hv⟩ : ∃ vd, ∀ G, Dp K G v vd := by
      rcases i with _ | _ | _ | _ | i
      · cases (Option.some.inj hi); exact ⟨_, fun G => .int _⟩
      · cases (Option.some.inj hi); exact ⟨_, fun G => .int _⟩
      · cases (Option.some.inj hi); exact ⟨_, fun G => .int _⟩
      · cases (Option.some.inj hi); exact ⟨_, fun G => .non⟩
      · simp at hi
    have f10 := (Vb.Fr.of (st := st) eL3).trans f10
    have hB10 := f10.k _ _ mB hB
    have F10 := F8.trans ((Vb.Fr.of (st := st) eB).trans f10)
    clear eL3 nL3 hi f10 hB eB nB hm8 S8 F8
    walk_at "rd"
    refine ⟨Vb.size_ok (by show 1 ≤ 16777216; decide), fun V1 nV1 => ?_⟩
    have eV := Vb.same_new (o := .lst [v]) nV1
    have hV1 : (upd G10 V1 (.lst [v])) V1 = some (.lst [v]) := upd_same
    have hB11 := eV _ _ hB10
    have lrs : (rs.map V.int).length = rs.length := List.length_map ..
    have lns : (ns.map V.int).length = ns.length := List.length_map ..
    refine Vb.r_cat hB11 hV1 (Vb.size_ok (by rw [lrs]; show rs.length + 1 ≤ _; omega)) fun Y nY => ?_
    have eY := eV.trans (Vb.same_new (o := .lst (rs.map V.int ++ [v])) nY)
    have hY : (upd (upd G10 V1 (.lst [v])) Y (.lst (rs.map V.int ++ [v]))) Y = some (.lst (rs.map V.int ++ [v])) := upd_same
    generalize upd (upd G10 V1 _) Y _ = G11 at eY hY ⊢
    have S11 := S10.same eY
    have F11 := F10.trans (Vb.Fr.of (st := st) eY)
    have hl11 := F11.seq ml hl
    clear eY nY hB11 hV1 eV nV1 hB10 F10 S10
    walk_at "rd"
    refine ⟨l, _, rfl, .inl hl11, fun C nC => ?_⟩
    have eC := Vb.same_new (o := .lst (ns.map V.int)) nC
    have hC : (upd G11 C (.lst (ns.map V.int))) C = some (.lst (ns.map V.int)) := upd_same
    have hY12 := eC _ _ hY
    generalize upd G11 C _ = G12 at eC hC hY12 ⊢
    walk_at "rd"
    refine ⟨1, .ref C, .ref Y, .non, .none, "WrongPlaces", rfl, .non, trivial, ref_places (es := rs.map PyData.int ++ [vd]) (.inl (Vb.sq_of hC)) r hn (.inl (Vb.sq_of hY12)) (dpa_app (Vb.dpa_ints _) (.cons (hv _) .nil)) (by rw [List.length_append, lrs]; show rs.length + 1 ≠ _; omega), fun r1 G13 nr1 e13 hr13 => ?_⟩
    walk_at "rd"
    refine ⟨Vb.size_ok (by show 1 ≤ 16777216; decide), fun r2 nr2 => ?_⟩
    have e14 := eC.trans (e13.trans (Vb.same_new (o := .lst [.str "WrongPlaces"]) nr2))
    refine ⟨.list [.str "WrongPlaces"], .list [.str "WrongPlaces"], Vb.dp_lst (Vb.same_new nr2 _ _ hr13) (.cons (.str _) .nil), Vb.dp_lst upd_same (.cons (.str _) .nil), shaped_one (by decide +kernel), shaped_one (by decide +kernel), ?_⟩
    rw [eqv_one]
    have S14 := S11.same e14
    have F14 := F11.trans (Vb.Fr.of (st := st) e14)
    generalize upd G13 r2 _ = G14 at S14 F14 ⊢
    clear e14 nr2 nr1 e13 hr13 hY12 hC eC nC hl11 S11 F11 hY hv
    have hl14 := F14.seq ml hl
    have hm14 := F14.seq mm hm
    walk_at "rd"
    refine Vb.r_ite (fun c => ?_) (fun c => ?_)
    · walk_at "rd"
      exact q _ F14 S14
    rw [lns] at c
    walk_at "rd"
    refine ⟨st, l, m, ns, rs, rfl, S14, ml, mm, hl14, hm14, (fun p m => by have := (r.p p m).1.1; omega), by omega, hn, hq, fun t2 b2 v2 d2 ys es G15 mt2 mb2 ht2 hb2 BR f15 S15 => ?_⟩
    have F15 := F14.trans f15
    have hl15 := F15.seq ml hl
    clear hl14 hm14 S14 F14 f15
    walk_at "rd"
    refine ⟨l, _, rfl, .inl hl15, fun C nC => ?_⟩
    have eC := Vb.same_new (o := .lst (ns.map V.int)) nC
    have hC : (upd G15 C (.lst (ns.map V.int))) C = some (.lst (ns.map V.int)) := upd_same
    have mC := S15.ne nC
    have S16 := S15.same eC
    have F16 := Vb.Fr.of (st := st) eC
    generalize upd G15 C _ = G16 at hC S16 F16 ⊢
    clear eC nC
    have ht16 := F16.k _ _ mt2 ht2
    have hb16 := F16.k _ _ mb2 hb2
    walk_at "rd"
    refine ⟨st, b2, ys, rfl, S16, mb2, .inl (Vb.sq_of hb16), fun h G17 mh hh hrow f17 S17 => ?_⟩
    have F17 := F16.trans f17
    have ht17 := F17.k _ _ mt2 ht2
    have hC17 := f17.k _ _ mC hC
    have BR17 := (BR.same (Vb.offs_fr F17 (List.mem_cons_self ..))).same Vb.offs_sub
    walk_at "rd"
    refine ⟨1, .ref C, .ref h, v2, d2, "NotInField", rfl, BR17.one, BR17.ok, ref_bent (.inl (Vb.sq_of hC17)) r hn hh BR17, fun r1 G18 nr1 e18 hr18 => ?_⟩
    walk_at "rd"
    refine ⟨Vb.size_ok (by show 1 ≤ 16777216; decide), fun r2 nr2 => ?_⟩
    have e19 := e18.trans (Vb.same_new (o := .lst [.str "NotInField"]) nr2)
    refine ⟨.list [.str "NotInField"], .list [.str "NotInField"], Vb.dp_lst (Vb.same_new nr2 _ _ hr18) (.cons (.str _) .nil), Vb.dp_lst upd_same (.cons (.str _) .nil), shaped_one (by decide +kernel), shaped_one (by decide +kernel), ?_⟩
    rw [eqv_one]
    have S19 := S17.same e19
    have F19 := F17.trans (Vb.Fr.of (st := st) e19)
    generalize upd G18 r2 _ = G19 at S19 F19 ⊢
    clear e19 nr2 nr1 e18 hr18 BR17 hC17 ht17 F17 S17 f17 hrow hh mh h ht16 hb16 F16 S16 mC hC
    have ht19 := F19.k _ _ mt2 ht2
    walk_at "rd"
    refine ⟨Vb.size_ok (by show 2 ≤ 16777216; decide), fun L4 nL4 => ?_⟩
    have eL4 := Vb.same_new (o := .lst [.ref m, .ref b2]) nL4
    walk_at "rd"
    refine use_pick [.ref m, .ref b2] (S19.same eL4) (S19.ne nL4) (Vb.sq_of upd_same) (by show 2 < 1000000; decide) (by simp) fun i v G20 hi f20 S20 => ?_
    have F20 := F19.trans ((Vb.Fr.of (st := st) eL4).trans f20)
    have F20a := F15.trans F20
    obtain ⟨X, zs, us, rfl, mX, hX, heX, lz⟩ : ∃ X zs us, v = .ref X ∧ X ≠ st ∧ SqL K G20 X zs ∧ DpAll K (Vb.offs [st] G20) zs us ∧ zs.length = ns.length := by
      rcases i with _ | _ | i
      · cases (Option.some.inj hi)
        exact ⟨m, _, _, rfl, mm, F20a.seq mm hm, Vb.dpa_ints _, by rw [lrs, hql]⟩
      · cases (Option.some.inj hi)
        exact ⟨b2, _, _, rfl, mb2, Vb.sq_of (F20.k _ _ mb2 hb2), (BR.same (Vb.offs_fr F20 (List.mem_cons_self ..))).all, BR.len⟩
      · simp at hi
    have hl20 := F20a.seq ml hl
    clear hi f20 eL4 nL4 ht19 S19 F19
    walk_at "rd"
    refine ⟨l, _, rfl, .inl hl20, fun C nC => ?_⟩
    have eC := Vb.same_new (o := .lst (ns.map V.int)) nC
    have hC : (upd G20 C (.lst (ns.map V.int))) C = some (.lst (ns.map V.int)) := upd_same
    have mC := S20.ne nC
    have S21 := S20.same eC
    have F21 := Vb.Fr.of (st := st) eC
    generalize upd G20 C _ = G21 at hC S21 F21 ⊢
    clear eC nC
    have hX21 := F21.seq mX hX
    walk_at "rd"
    refine Vb.r_slL hX21 fun D nD => ?_
    rw [show (1 : Int) = ((1 : Nat) : Int) from rfl, cut_drop (by omega)]
    have eD := Vb.same_new (o := .lst (zs.drop 1)) nD
    have hD : (upd G21 D (.lst (zs.drop 1))) D = some (.lst (zs.drop 1)) := upd_same
    have mD := S21.ne nD
    have S22 := S21.same eD
    have F22 := F21.trans (Vb.Fr.of (st := st) eD)
    have hC22 := eD _ _ hC
    generalize upd G21 D _ = G22 at hD S22 F22 hC22 ⊢
    clear eD nD hX21 F21 S21
    walk_at "rd"
    refine ⟨st, D, zs.drop 1, rfl, S22, mD, .inl (Vb.sq_of hD), fun h G23 mh hh hrow f23 S23 => ?_⟩
    have F23 := F22.trans f23
    have hC23 := f23.k _ _ mC hC22
    have hz := dpa_off (Vb.dpa_same (Vb.offs_fr F23 (List.mem_cons_self ..)) _ _ heX)
    walk_at "rd"
    refine ⟨1, .ref C, .ref h, .non, .none, "WrongPlaces", rfl, .non, trivial, ref_places (es := us.drop 1) (.inl (Vb.sq_of hC23)) r hn hh (dpa_drop hz) (by rw [List.length_drop]; omega), fun r1 G24 nr1 e24 hr24 => ?_⟩
    walk_at "rd"
    refine ⟨Vb.size_ok (by show 1 ≤ 16777216; decide), fun r2 nr2 => ?_⟩
    have e25 := e24.trans (Vb.same_new (o := .lst [.str "WrongPlaces"]) nr2)
    refine ⟨.list [.str "WrongPlaces"], .list [.str "WrongPlaces"], Vb.dp_lst (Vb.same_new nr2 _ _ hr24) (.cons (.str _) .nil), Vb.dp_lst upd_same (.cons (.str _) .nil), shaped_one (by decide +kernel), shaped_one (by decide +kernel), ?_⟩
    rw [eqv_one]
    exact q _ (F20a.trans (F23.trans (Vb.Fr.of (st := st) e25))) (S23.same e25)
end
end K
namespace K
open PySem PySem.Spec PyProof.Rows L2

abbrev N_law : List Str := ["script", "store", "primes", "rests", "product", "near", "count", "prime"]
theorem sc_law : FnScope N_law ["script"] (defScope s_law) := ⟨rfl, rfl, rfl, by decide +kernel, rfl, by decide +kernel, by decide +kernel⟩
section
variable {P : Program} {w : World} {K : PySem.W.Frag} {mg : Str → Option Value} {base : Heap}
def sp_law (K : PySem.W.Frag) : Sp := fun vs H Q _ => ∃ (a : Addr) (ns : List Int), vs = [.ref a] ∧ SqL K H a (ns.map V.int) ∧ ns.length ≤ 63 ∧ ∀ H' : Hp, Q (.bl true) H'
theorem ok_law (T : Txt K mg) : FnOk P w K mg base (L2N.CX P w) 10 T.f_law T.fd_law ["script"] (sp_law K) := by
  have G__law_store := ok_store (P := P) (w := w) (base := base) T
  have G__law_edge := ok_edge (P := P) (w := w) (base := base) T
  have G__law_prime_row := ok_primerow (P := P) (w := w) (base := base) T
  have G__law_number := ok_lawnumber (P := P) (w := w) (base := base) T
  have G__law_product := ok_lawproduct (P := P) (w := w) (base := base) T
  have G__law_pick := ok_pick (P := P) (w := w) (base := base) T
  have G__law_big := ok_big (P := P) (w := w) (base := base) T
  have G__law_any_count := ok_anycount (P := P) (w := w) (base := base) T
  have G__law_residues_are := ok_residuesare (P := P) (w := w) (base := base) T
  have G__law_undone := ok_undone (P := P) (w := w) (base := base) T
  have G__law_refused := ok_refused (P := P) (w := w) (base := base) T
  refine Vb.okN T.d_law.F sc_law (fun vs H Q E h => ?_) (fun cdv A outer s H vs Q E hr h => ?_)
  · obtain ⟨a, ns, rfl, _⟩ := h
    rfl
  · obtain ⟨a, script, rfl, ha, hsc, q⟩ := h
    refine ⟨_, (pss_cons (ps_set (i := 1) sc_law.nd rfl (by first | exact Or.inl rfl | exact Or.inr rfl) (pe_callS G__law_store (hr.mono (by first | decide | omega)) (by rfl) T.d__law_store.g T.d__law_store.F.kp T.d__law_store.b (fun σ => L2N.passAt (L2N.takes_of rfl rfl rfl rfl) σ) (pa_cons (pv 0) pa_nil)))
      (pss_cons (ps_set (i := 2) sc_law.nd rfl (by first | exact Or.inl rfl | exact Or.inr rfl) (pe_callS G__law_prime_row (hr.mono (by first | decide | omega)) (by rfl) T.d__law_prime_row.g T.d__law_prime_row.F.kp T.d__law_prime_row.b (fun σ => L2N.passAt (L2N.takes_of rfl rfl rfl rfl) σ) (pa_cons (pv 1) (pa_cons (pe_callS G__law_edge (hr.mono (by first | decide | omega)) (by rfl) T.d__law_edge.g T.d__law_edge.F.kp T.d__law_edge.b (fun σ => L2N.passAt (L2N.takes_of rfl rfl rfl rfl) σ) (pa_cons (pv 1) (pa_cons pe_int (pa_cons pe_int pa_nil)))) pa_nil))))
      (pss_cons (ps_setLc (i := 3) (own := [("prime", 7)]) (g := gName 7) (tt := tYes) rfl sc_law.nd rfl rfl (sw_true rfl rfl rfl (by decide +kernel)) (pi_list (pv 2)) (blkOk_by (own := [("prime", 7)]) (N := N_law) (sc := defScope s_law) (by decide +kernel)) (fun _ _ _ _ _ => (pg_name (i := 7) sc_law.nd rfl (by first | exact Or.inl rfl | exact Or.inr rfl))) (fun _ _ _ _ _ => pts_nil) (fun _ _ _ _ _ => (pe_call G__law_number (hr.mono (by first | decide | omega)) (by rfl) T.d__law_number.g T.d__law_number.F.kp T.d__law_number.b .nil Vb.pass5 (pa_cons (pv 1) (pa_cons (pv 7) pa_nil)))))
      (pss_cons (ps_set (i := 4) sc_law.nd rfl (by first | exact Or.inl rfl | exact Or.inr rfl) (pe_callS G__law_product (hr.mono (by first | decide | omega)) (by rfl) T.d__law_product.g T.d__law_product.F.kp T.d__law_product.b (fun σ => L2N.passAt (L2N.takes_of rfl rfl rfl rfl) σ) (pa_cons (pv 2) pa_nil)))
      (pss_cons (ps_set (i := 5) sc_law.nd rfl (by first | exact Or.inl rfl | exact Or.inr rfl) (pe_callS G__law_pick (hr.mono (by first | decide | omega)) (by rfl) T.d__law_pick.g T.d__law_pick.F.kp T.d__law_pick.b (fun σ => L2N.passAt (L2N.takes_of rfl rfl rfl rfl) σ) (pa_cons (pv 1) (pa_cons (pe_lst (pa_cons pe_int (pa_cons pe_int (pa_cons (pe_op op_sub (pv 4) pe_int) (pa_cons (pv 4) (pa_cons (pe_op op_add (pv 4) pe_int) pa_nil)))))) pa_nil))))
      (pss_cons (ps_for (L2.passes_of rfl) rfl (pi_list (pe_lst (pa_cons (pe_op op_mod (pe_callTy Vb.call_int (by rfl) T.n_int (by decide +kernel) (pa_cons (pe_callS G__law_big (hr.mono (by first | decide | omega)) (by rfl) T.d__law_big.g T.d__law_big.F.kp T.d__law_big.b (fun σ => L2N.passAt (L2N.takes_of rfl rfl rfl rfl) σ) (pa_cons (pv 1) (pa_cons pe_int pa_nil))) pa_nil)) (pv 4)) (pa_cons (pv 5) (pa_cons (pe_callS G__law_any_count (hr.mono (by first | decide | omega)) (by rfl) T.d__law_any_count.g T.d__law_any_count.F.kp T.d__law_any_count.b (fun σ => L2N.passAt (L2N.takes_of rfl rfl rfl rfl) σ) (pa_cons (pv 1) pa_nil)) pa_nil))))) (pg_name (i := 6) sc_law.nd rfl (by first | exact Or.inl rfl | exact Or.inr rfl))
        (pss_one (ps_if (pt_not (pt_val (pe_callS G__law_residues_are (hr.mono (by first | decide | omega)) (by rfl) T.d__law_residues_are.g T.d__law_residues_are.F.kp T.d__law_residues_are.b (fun σ => L2N.passAt (L2N.takes_of rfl rfl rfl rfl) σ) (pa_cons (pv 1) (pa_cons (pv 6) (pa_cons (pv 2) pa_nil)))))) (pss_one (ps_ret pe_bl)) pss_nil)))
      (pss_cons (ps_if (PW.pt (pw_or (pt_not (pt_val (pe_callS G__law_undone (hr.mono (by first | decide | omega)) (by rfl) T.d__law_undone.g T.d__law_undone.F.kp T.d__law_undone.b (fun σ => L2N.passAt (L2N.takes_of rfl rfl rfl rfl) σ) (pa_cons (pv 1) (pa_cons (pv 2) (pa_cons (pv 3) pa_nil)))))) (pw_or1 (pt_not (pt_val (pe_callS G__law_undone (hr.mono (by first | decide | omega)) (by rfl) T.d__law_undone.g T.d__law_undone.F.kp T.d__law_undone.b (fun σ => L2N.passAt (L2N.takes_of rfl rfl rfl rfl) σ) (pa_cons (pv 1) (pa_cons (pe_slice sl_list (pv 2) (po_some pe_int) po_none) (pa_cons (pe_slice sl_list (pv 3) (po_some pe_int) po_none) pa_nil))))))))) (pss_one (ps_ret pe_bl)) pss_nil)
      (pss_one (ps_ret (pe_and (pe_callS G__law_refused (hr.mono (by first | decide | omega)) (by rfl) T.d__law_refused.g T.d__law_refused.F.kp T.d__law_refused.b (fun σ => L2N.passAt (L2N.takes_of rfl rfl rfl rfl) σ) (pa_cons (pv 1) (pa_cons (pv 2) (pa_cons (pv 3) pa_nil)))) (pe_one (pe_callS G__law_undone (hr.mono (by first | decide | omega)) (by rfl) T.d__law_undone.g T.d__law_undone.F.kp T.d__law_undone.b (fun σ => L2N.passAt (L2N.takes_of rfl rfl rfl rfl) σ) (pa_cons (pv 1) (pa_cons (pv 2) (pa_cons (pv 3) pa_nil))))))))))))))), ?_⟩
    (change (_ : L2.TS) _ ([some (.ref a), none, none, none, none, none, none, none] : L2.St) _); try dsimp only [L2.cxOf, L2H.cxH]
    walk_at "rd"
    refine ⟨a, script, rfl, ha, by omega, fun st H1 n1 e1 S1 => ?_⟩
    walk_at "rd"
    refine use_edge S1 (by decide) fun k H2 k1 k2 _ f2 S2 => ?_
    have k3 := k2 (by decide)
    walk_at "rd"
    refine ⟨st, k, rfl, S2, by omega, fun L H3 ns mL nL hL lL r f3 S3 => ?_⟩
    have hn : ns.length ≤ 8 := by omega
    have lns : (ns.map V.int).length = ns.length := List.length_map ..
    walk_at "rd"
    intro D nD
    have mD := S3.ne nD
    refine Vb.lcw_list (xs := ns.map V.int) (fun i H' => ∃ rs : List Int, Vb.Fr st H3 H' ∧ Vb.StoreAt H' st ∧ H' D = some (.lst (rs.map V.int)) ∧ rs.length = i ∧ ∀ (j : Nat) p x, ns[j]? = some p → rs[j]? = some x → 0 ≤ x ∧ x < p) ⟨[], (Vb.Fr.refl _ _).mut nD, S3.mut nD (Vb.Fr.refl _ _) S3, upd_same, rfl, fun j p x _ h => by simp at h⟩ (fun x => rfl) (fun i H' _ c => by obtain ⟨rs, F, _⟩ := c; exact F.seq mL (Vb.sq_of hL)) ?_ ?_
    · rintro i x H' hi ⟨rs, F, S, h, hlen, hb⟩
      obtain ⟨p, hp, rfl⟩ := Vb.getV' hi
      have pp := r.p p (List.mem_of_getElem? hp)
      have p2 := pp.1.1
      have li := (List.getElem?_eq_some_iff.mp hp).1
      walk_at "rd"
      refine use_lawnumber S ⟨by omega, pp.2⟩ fun x G x1 x2 f4 S4 => ?_
      have h4 := f4.k _ _ mD h
      have F4 := F.trans f4
      refine ⟨_, h4, Vb.size_lt (by rw [List.length_map]; omega), rs ++ [x], F4.mut nD, S3.mut nD F4 S4, by rw [upd_same, List.map_append]; rfl, by rw [List.length_append, hlen]; rfl, fun j q y hq hy => ?_⟩
      by_cases c : j < rs.length
      · rw [List.getElem?_append_left c] at hy
        exact hb j q y hq hy
      · rw [List.getElem?_append_right (by omega)] at hy
        have e0 : j - rs.length = 0 := by
          have := (List.getElem?_eq_some_iff.mp hy).1
          simp at this
          omega
        rw [e0] at hy
        cases hy
        rw [show j = i by omega, hp] at hq
        cases hq
        exact ⟨x1, x2⟩
    rintro H4 ⟨rs, F4, S4, hD, hlen, hb⟩
    have hq : Rests ns rs := ⟨by rw [hlen, lns], hb⟩
    have hL4 := F4.k _ _ mL hL
    obtain ⟨p1, p2⟩ := pr_small r.p hn
    have bp := big300_pos
    have lrs : (rs.map V.int).length = rs.length := List.length_map ..
    have hql := hq.l
    clear hb hlen F4 nD S3 f3 hL nL S2 f2 S1 e1 n1
    walk_at "rd"
    refine ⟨L, ns, rfl, Vb.sq_of hL4, r.bd, ?_⟩
    walk_at "rd"
    refine ⟨Vb.size_ok (by show 5 ≤ 16777216; decide), fun X nX => ?_⟩
    have eX := Vb.same_new (o := .lst [.int 0, .int 1, .int (pr ns - 1), .int (pr ns), .int (pr ns + 1)]) nX
    walk_at "rd"
    refine use_pick [.int 0, .int 1, .int (pr ns - 1), .int (pr ns), .int (pr ns + 1)] (S4.same eX) (S4.ne nX) (Vb.sq_of upd_same) (by show 5 < 1000000; decide) (by simp) fun i v H5 hi f5 S5 => ?_
    obtain ⟨near, rfl, hnear⟩ : ∃ n : Int, v = .int n ∧ 0 ≤ n ∧ n ≤ big300 := by
      have m := List.mem_of_getElem? hi
      simp only [List.mem_cons, List.not_mem_nil, or_false] at m
      rcases m with rfl | rfl | rfl | rfl | rfl <;> exact ⟨_, rfl, by omega, by omega⟩
    have F5 := (Vb.Fr.of (st := st) eX).trans f5
    have hL5 := F5.k _ _ mL hL4
    have hD5 := F5.k _ _ mD hD
    clear F5 hL4 hD f5 hi eX nX S4
    walk_at "rd"
    refine use_big S5 (by decide) fun n H6 n1 n2 f6 S6 => ?_
    walk_at "rd"
    refine ⟨st, rfl, S6, fun c H7 hc f7 S7 => ?_⟩
    walk_at "rd"
    have hmod : 0 ≤ n % pr ns ∧ n % pr ns ≤ big300 := ⟨Int.emod_nonneg _ (by omega), by have := Int.emod_lt_of_pos n (show 0 < pr ns by omega); omega⟩
    generalize n % pr ns = n' at hmod ⊢
    refine ⟨Vb.size_ok (by show 3 ≤ 16777216; decide), fun Y nY => ?_⟩
    have eY := Vb.same_new (o := .lst [.int n', .int near, .int c]) nY
    have hY : (upd H7 Y (.lst [.int n', .int near, .int c])) Y = some (.lst [.int n', .int near, .int c]) := upd_same
    have mY := S7.ne nY
    have S8 := S7.same eY
    have F8 := f6.trans (f7.trans (Vb.Fr.of (st := st) eY))
    generalize upd H7 Y _ = H8 at hY S8 F8 ⊢
    have hL8 := F8.k _ _ mL hL5
    have hD8 := F8.k _ _ mD hD5
    walk_at "rd"
    refine Vb.lp_list (xs := [.int n', .int near, .int c]) (fun i σ G => Vb.Fr st H8 G ∧ Vb.StoreAt G st ∧ ∃ y, σ = [some (.ref a), some (.ref st), some (.ref L), some (.ref D), some (.int (pr ns)), some (.int near), y, none]) ⟨Vb.Fr.refl _ _, S8, none, rfl⟩ (fun i σ G _ z => z.1.seq mY (Vb.sq_of hY)) ?_ ?_
    · rintro i x σ G hi ⟨F, S, y, rfl⟩
      obtain ⟨z, rfl, hz⟩ : ∃ z : Int, x = .int z ∧ 0 ≤ z ∧ z ≤ big300 := by
        have m := List.mem_of_getElem? hi
        simp only [List.mem_cons, List.not_mem_nil, or_false] at m
        rcases m with rfl | rfl | rfl
        · exact ⟨_, rfl, hmod⟩
        · exact ⟨_, rfl, hnear⟩
        · exact ⟨_, rfl, hc⟩
      walk_at "rd"
      refine ⟨st, L, ns, z, rfl, S, mL, Vb.sq_of (F.k _ _ mL hL8), r, hn, hz, fun G2 g2 SG2 => ?_⟩
      walk_at "rd"
      exact ⟨F.trans g2, SG2, _, rfl⟩
    rintro σ G ⟨F, S, y, rfl⟩
    have hLG := F.k _ _ mL hL8
    have hDG := F.k _ _ mD hD8
    clear F hL8 hD8 hY S8 F8 hL5 hD5 eY nY mY S7 f7 S6 f6 S5
    walk_at "rd"
    refine ⟨st, L, D, ns, rs, rfl, S, mL, mD, Vb.sq_of hLG, Vb.sq_of hDG, r, hn, hq, fun G1 g1 T1 => ?_⟩
    have hL1 := g1.k _ _ mL hLG
    have hD1 := g1.k _ _ mD hDG
    have cl : cutV (ns.map V.int) (some ((1 : Nat) : Int)) none = (ns.drop 1).map V.int := by
      by_cases z : 1 ≤ (ns.map V.int).length
      · rw [cut_drop z, List.map_drop]
      · have : ns = [] := List.eq_nil_of_length_eq_zero (by omega)
        subst this
        rfl
    have cd : cutV (rs.map V.int) (some ((1 : Nat) : Int)) none = (rs.drop 1).map V.int := by
      by_cases z : 1 ≤ (rs.map V.int).length
      · rw [cut_drop z, List.map_drop]
      · have : rs = [] := List.eq_nil_of_length_eq_zero (by omega)
        subst this
        rfl
    walk_at "rd"
    refine Vb.r_slL (Vb.sq_of hL1) fun A nA => ?_
    rw [show (1 : Int) = ((1 : Nat) : Int) from rfl, cl]
    have eA := Vb.same_new (o := .lst ((ns.drop 1).map V.int)) nA
    have hA : (upd G1 A (.lst ((ns.drop 1).map V.int))) A = some (.lst ((ns.drop 1).map V.int)) := upd_same
    have hD2 := eA _ _ hD1
    have mA := T1.ne nA
    have T2 := T1.same eA
    generalize upd G1 A _ = G2 at eA hA hD2 T2 ⊢
    walk_at "rd"
    refine Vb.r_slL (Vb.sq_of hD2) fun B nB => ?_
    rw [cd]
    have eB := Vb.same_new (o := .lst ((rs.drop 1).map V.int)) nB
    have hB : (upd G2 B (.lst ((rs.drop 1).map V.int))) B = some (.lst ((rs.drop 1).map V.int)) := upd_same
    have hA3 := eB _ _ hA
    have mB := T2.ne nB
    have T3 := T2.same eB
    have e3 := eA.trans eB
    generalize upd G2 B _ = G3 at hB hA3 T3 e3 ⊢
    walk_at "rd"
    refine ⟨st, A, B, ns.drop 1, rs.drop 1, rfl, T3, mA, mB, Vb.sq_of hA3, Vb.sq_of hB, r.tail, by rw [List.length_drop]; omega, hq.tail, fun G4 g4 T4 => ?_⟩
    have hL4 := g4.k _ _ mL (e3 _ _ hL1)
    have hD4 := g4.k _ _ mD (e3 _ _ hD1)
    walk_at "rd"
    refine ⟨st, L, D, ns, rs, rfl, T4, mL, mD, Vb.sq_of hL4, Vb.sq_of hD4, r, hn, hq, fun G5 g5 T5 => ?_⟩
    walk_at "rd"
    exact ⟨st, L, D, ns, rs, rfl, T5, mL, mD, Vb.sq_of (g5.k _ _ mL hL4), Vb.sq_of (g5.k _ _ mD hD4), r, hn, hq, fun G6 _ _ => q G6⟩
end
end K
set_option maxHeartbeats 0
namespace PySem
namespace Lowvalue
open PySem.W PySem.Calls PyProof.Rows PySem.HandSPX
theorem low_mk {K : Frag} {mg : Str → Option Value} {x qn : Str} {C fI : Addr} {nm q : Str} {N : Addr} {bs bm : List Value} {sn : List Str} {sub : List Value} {ab : Bool} {col : Option Bool} {dd : Option Addr} {k0 k1 k2 k3 k5 : Option Value} {oc : Value} {od : Option Addr} {kV doc pm : Value} {an : Option Addr} {cdv ct : Value} {osl : Array (Option Value)} (p1 p2 q1 q2 q3 q4 : Pos) (g : mg x = some (.ref C))
    (l : K.lookup C = some (excClassObj nm q C N bs bm true sn sub ab col dd k0 k1 k2 k3 k5 "ValueError.__new__")) (b : refsVE bm = true) (sa : findIn K (.ref C) "__setattr__" = some (some (.builtin "object.__setattr__"))) (no : findIn K (.ref C) "value" = some none) (iC : findIn K (.ref C) "__init__" = some (some (.ref fI)))
    (tC : typeIn K (.ref fI) = some (.type "function")) (kC : keepIn K (.ref C) = true) (eC : subIn K (.ref C) (.type "BaseException") = some true) (yC : typeIn K (.ref C) = some (.type "type"))
    (lf : K.lookup fI = some ⟨oc, od, .func (fnOf "__init__" qn (iA p1 p2) (iB q1 q2 q3 q4) iS .none kV doc pm an cdv ct), osl⟩) (cf : codeIn K cdv qn = true) : LowTxt K mg x qn C fI :=
  ⟨g, ⟨_, _, _, _, _, _, _, _, _, _, _, _, _, _, _, l, b⟩, sa, no, iC, tC, kC, eC, yC, ⟨_, _, _, _, _, _, _, _, _, _, _, _, _, _, _, lf, cf⟩⟩
end Lowvalue
end PySem
open PySem PySem.Spec PyProof.Rows L2 in
theorem K.fin {P : Program} {w : World} {K : PySem.W.Frag} {mg : Str → Option Value} {fa : Addr} (hfa : mg "law" = some (.ref fa)) (T : _root_.K.Txt K mg) (hb : ∀ (s : Shared) (v : Value), BindsTo s T.fd_law ⟨[v], []⟩ [("script", v)]) : ∃ fd : FuncData, (∀ (s : Shared) (v : Value), BindsTo s fd ⟨[v], []⟩ [("script", v)]) ∧ ∀ base : Heap, K.In base → base.Ns mainGlobals mg → FnOk P w K mg base (L2N.CX P w) 10 fa fd ["script"] (_root_.K.sp_law K) := by
  have e := hfa.symm.trans T.d_law.g
  cases e
  exact ⟨T.fd_law, hb, fun base _ _ => _root_.K.ok_law T⟩
open PySem PySem.W PyProof.Rows
theorem PySem.Challenge.cw_sumtalk_k69_residues_undo_holds : PySem.Challenge.rw_sumtalk_k69_residues_undo.Holds := by
  w_on; o_law; k_head; (case hw => w_witness2)
  k_fill
  refine L2.walk_of (l := PySem.Challenge.rw_sumtalk_k69_residues_undo) (n := 63) (k := 10) (x := "script") (CX := fun w => L2N.CX PySem.Challenge.rw_sumtalk_k69_residues_undo.prog w) (sp := fun w => K.sp_law _) rfl (by decide) rfl ⟨rfl, by decide, by decide⟩ (fun w h Y => PySem.W.kIn_of Y) ?F (fun _ _ a ns hl _ hS => ⟨a, ns, rfl, hS, hl, fun _ => rfl⟩) (fun _ _ _ _ _ h => by obtain ⟨_, _, _, _, _, _, _, _, _, _, _, _, z⟩ := h; exact z)
  case F =>
    intro w mg fa h KX G hmg
    obtain ⟨t_TEN_TO_300, c_TEN_TO_300⟩ : ∃ t, mg "TEN_TO_300" = some (.int 1000000000000000000000000000000000000000000000000000000000000000000000000000000000000000000000000000000000000000000000000000000000000000000000000000000000000000000000000000000000000000000000000000000000000000000000000000000000000000000000000000000000000000000000000000000000000000000000000000000000000 t) := Vb.tok_mk KX G (by k_is)
    obtain ⟨t_MAX_PRIME, c_MAX_PRIME⟩ : ∃ t, mg "MAX_PRIME" = some (.int 101 t) := Vb.tok_mk KX G (by k_is)
    obtain ⟨t_MAX_TESTED, c_MAX_TESTED⟩ : ∃ t, mg "MAX_TESTED" = some (.int 10000 t) := Vb.tok_mk KX G (by k_is)
    obtain ⟨t_MAX_EXPONENT, c_MAX_EXPONENT⟩ : ∃ t, mg "MAX_EXPONENT" = some (.int 10000 t) := Vb.tok_mk KX G (by k_is)
    obtain ⟨t_MAX_PRIMES, c_MAX_PRIMES⟩ : ∃ t, mg "MAX_PRIMES" = some (.int 8 t) := Vb.tok_mk KX G (by k_is)
    refine' K.fin hmg (K.Txt.mk
      _
      ⟨(PySem.W.mg_of KX G ?a_TalkError), ?q_TalkError, ?k_TalkError, ?e_TalkError, ?t_TalkError⟩
      _
      _
      (PySem.Lowvalue.low_mk ⟨9, 17, 9, 21⟩ ⟨9, 23, 9, 28⟩ ⟨10, 8, 10, 12⟩ ⟨10, 8, 10, 18⟩ ⟨10, 21, 10, 26⟩ ⟨10, 8, 10, 26⟩ (PySem.W.mg_of KX G ?a_NotPrime) ?l_NotPrime ?bm_NotPrime ?sa_NotPrime ?no_NotPrime ?ic_NotPrime ?tc_NotPrime ?kc_NotPrime ?ec_NotPrime ?ty_NotPrime ?lf_NotPrime ?cf_NotPrime)
      _
      _
      (PySem.Lowvalue.low_mk ⟨13, 17, 13, 21⟩ ⟨13, 23, 13, 28⟩ ⟨14, 8, 14, 12⟩ ⟨14, 8, 14, 18⟩ ⟨14, 21, 14, 26⟩ ⟨14, 8, 14, 26⟩ (PySem.W.mg_of KX G ?a_NotInField) ?l_NotInField ?bm_NotInField ?sa_NotInField ?no_NotInField ?ic_NotInField ?tc_NotInField ?kc_NotInField ?ec_NotInField ?ty_NotInField ?lf_NotInField ?cf_NotInField)
      _
      ⟨(PySem.W.mg_of KX G ?a_WrongPlaces), ?q_WrongPlaces, ?k_WrongPlaces, ?e_WrongPlaces, ?t_WrongPlaces⟩
      _
      ⟨(PySem.W.mg_of KX G ?a_DivisionByZero), ?q_DivisionByZero, ?k_DivisionByZero, ?e_DivisionByZero, ?t_DivisionByZero⟩
      _
      ⟨(PySem.W.mg_of KX G ?a_Repeated), ?q_Repeated, ?k_Repeated, ?e_Repeated, ?t_Repeated⟩
      _
      ⟨(PySem.W.mg_of KX G ?a_OutOfRange), ?q_OutOfRange, ?k_OutOfRange, ?e_OutOfRange, ?t_OutOfRange⟩
      _
      ⟨(PySem.W.mg_of KX G ?a_TooLarge), ?q_TooLarge, ?k_TooLarge, ?e_TooLarge, ?t_TooLarge⟩
      ⟨?xcl_NotPrime, ?xga_NotPrime, ?xgg_NotPrime, ?xsb_NotPrime, ?xca_NotPrime, ?xsp_NotPrime, ?xtk_NotPrime, ?xmo_NotPrime, ?xhd_NotPrime, ?xss_NotPrime, ?xty_NotPrime⟩
      ⟨?xcl_NotInField, ?xga_NotInField, ?xgg_NotInField, ?xsb_NotInField, ?xca_NotInField, ?xsp_NotInField, ?xtk_NotInField, ?xmo_NotInField, ?xhd_NotInField, ?xss_NotInField, ?xty_NotInField⟩
      ⟨?xcl_TalkError, ?xga_TalkError, ?xgg_TalkError, ?xsb_TalkError, ?xca_TalkError, ?xsp_TalkError, ?xtk_TalkError, ?xmo_TalkError, ?xhd_TalkError, ?xss_TalkError, ?xty_TalkError⟩
      ⟨?xcl_TooLarge, ?xga_TooLarge, ?xgg_TooLarge, ?xsb_TooLarge, ?xca_TooLarge, ?xsp_TooLarge, ?xtk_TooLarge, ?xmo_TooLarge, ?xhd_TooLarge, ?xss_TooLarge, ?xty_TooLarge⟩
      ⟨?xcl_Repeated, ?xga_Repeated, ?xgg_Repeated, ?xsb_Repeated, ?xca_Repeated, ?xsp_Repeated, ?xtk_Repeated, ?xmo_Repeated, ?xhd_Repeated, ?xss_Repeated, ?xty_Repeated⟩
      ⟨?xcl_OutOfRange, ?xga_OutOfRange, ?xgg_OutOfRange, ?xsb_OutOfRange, ?xca_OutOfRange, ?xsp_OutOfRange, ?xtk_OutOfRange, ?xmo_OutOfRange, ?xhd_OutOfRange, ?xss_OutOfRange, ?xty_OutOfRange⟩
      ⟨?xcl_WrongPlaces, ?xga_WrongPlaces, ?xgg_WrongPlaces, ?xsb_WrongPlaces, ?xca_WrongPlaces, ?xsp_WrongPlaces, ?xtk_WrongPlaces, ?xmo_WrongPlaces, ?xhd_WrongPlaces, ?xss_WrongPlaces, ?xty_WrongPlaces⟩
      (Vb.kit_no ?i_NotPrime_TooLarge ?y_NotPrime_TooLarge ?s_NotPrime_TooLarge ?ne_NotPrime_TooLarge)
      (Vb.kit_no ?i_NotPrime_Repeated ?y_NotPrime_Repeated ?s_NotPrime_Repeated ?ne_NotPrime_Repeated)
      (Vb.kit_yes ?i_NotPrime_NotPrime ?y_NotPrime_NotPrime ?s_NotPrime_NotPrime)
      (Vb.kit_no ?i_NotPrime_OutOfRange ?y_NotPrime_OutOfRange ?s_NotPrime_OutOfRange ?ne_NotPrime_OutOfRange)
      (Vb.kit_no ?i_NotPrime_WrongPlaces ?y_NotPrime_WrongPlaces ?s_NotPrime_WrongPlaces ?ne_NotPrime_WrongPlaces)
      (Vb.kit_no ?i_NotPrime_NotInField ?y_NotPrime_NotInField ?s_NotPrime_NotInField ?ne_NotPrime_NotInField)
      (Vb.kit_no ?i_NotInField_TooLarge ?y_NotInField_TooLarge ?s_NotInField_TooLarge ?ne_NotInField_TooLarge)
      (Vb.kit_no ?i_NotInField_Repeated ?y_NotInField_Repeated ?s_NotInField_Repeated ?ne_NotInField_Repeated)
      (Vb.kit_no ?i_NotInField_NotPrime ?y_NotInField_NotPrime ?s_NotInField_NotPrime ?ne_NotInField_NotPrime)
      (Vb.kit_no ?i_NotInField_OutOfRange ?y_NotInField_OutOfRange ?s_NotInField_OutOfRange ?ne_NotInField_OutOfRange)
      (Vb.kit_no ?i_NotInField_WrongPlaces ?y_NotInField_WrongPlaces ?s_NotInField_WrongPlaces ?ne_NotInField_WrongPlaces)
      (Vb.kit_yes ?i_NotInField_NotInField ?y_NotInField_NotInField ?s_NotInField_NotInField)
      (Vb.kit_yes ?i_TooLarge_TooLarge ?y_TooLarge_TooLarge ?s_TooLarge_TooLarge)
      (Vb.kit_no ?i_TooLarge_Repeated ?y_TooLarge_Repeated ?s_TooLarge_Repeated ?ne_TooLarge_Repeated)
      (Vb.kit_no ?i_TooLarge_NotPrime ?y_TooLarge_NotPrime ?s_TooLarge_NotPrime ?ne_TooLarge_NotPrime)
      (Vb.kit_no ?i_TooLarge_OutOfRange ?y_TooLarge_OutOfRange ?s_TooLarge_OutOfRange ?ne_TooLarge_OutOfRange)
      (Vb.kit_no ?i_TooLarge_WrongPlaces ?y_TooLarge_WrongPlaces ?s_TooLarge_WrongPlaces ?ne_TooLarge_WrongPlaces)
      (Vb.kit_no ?i_TooLarge_NotInField ?y_TooLarge_NotInField ?s_TooLarge_NotInField ?ne_TooLarge_NotInField)
      (Vb.kit_no ?i_Repeated_TooLarge ?y_Repeated_TooLarge ?s_Repeated_TooLarge ?ne_Repeated_TooLarge)
      (Vb.kit_yes ?i_Repeated_Repeated ?y_Repeated_Repeated ?s_Repeated_Repeated)
      (Vb.kit_no ?i_Repeated_NotPrime ?y_Repeated_NotPrime ?s_Repeated_NotPrime ?ne_Repeated_NotPrime)
      (Vb.kit_no ?i_Repeated_OutOfRange ?y_Repeated_OutOfRange ?s_Repeated_OutOfRange ?ne_Repeated_OutOfRange)
      (Vb.kit_no ?i_Repeated_WrongPlaces ?y_Repeated_WrongPlaces ?s_Repeated_WrongPlaces ?ne_Repeated_WrongPlaces)
      (Vb.kit_no ?i_Repeated_NotInField ?y_Repeated_NotInField ?s_Repeated_NotInField ?ne_Repeated_NotInField)
      (Vb.kit_no ?i_OutOfRange_TooLarge ?y_OutOfRange_TooLarge ?s_OutOfRange_TooLarge ?ne_OutOfRange_TooLarge)
      (Vb.kit_no ?i_OutOfRange_Repeated ?y_OutOfRange_Repeated ?s_OutOfRange_Repeated ?ne_OutOfRange_Repeated)
      (Vb.kit_no ?i_OutOfRange_NotPrime ?y_OutOfRange_NotPrime ?s_OutOfRange_NotPrime ?ne_OutOfRange_NotPrime)
      (Vb.kit_yes ?i_OutOfRange_OutOfRange ?y_OutOfRange_OutOfRange ?s_OutOfRange_OutOfRange)
      (Vb.kit_no ?i_OutOfRange_WrongPlaces ?y_OutOfRange_WrongPlaces ?s_OutOfRange_WrongPlaces ?ne_OutOfRange_WrongPlaces)
      (Vb.kit_no ?i_OutOfRange_NotInField ?y_OutOfRange_NotInField ?s_OutOfRange_NotInField ?ne_OutOfRange_NotInField)
      (Vb.kit_no ?i_WrongPlaces_TooLarge ?y_WrongPlaces_TooLarge ?s_WrongPlaces_TooLarge ?ne_WrongPlaces_TooLarge)
      (Vb.kit_no ?i_WrongPlaces_Repeated ?y_WrongPlaces_Repeated ?s_WrongPlaces_Repeated ?ne_WrongPlaces_Repeated)
      (Vb.kit_no ?i_WrongPlaces_NotPrime ?y_WrongPlaces_NotPrime ?s_WrongPlaces_NotPrime ?ne_WrongPlaces_NotPrime)
      (Vb.kit_no ?i_WrongPlaces_OutOfRange ?y_WrongPlaces_OutOfRange ?s_WrongPlaces_OutOfRange ?ne_WrongPlaces_OutOfRange)
      (Vb.kit_yes ?i_WrongPlaces_WrongPlaces ?y_WrongPlaces_WrongPlaces ?s_WrongPlaces_WrongPlaces)
      (Vb.kit_no ?i_WrongPlaces_NotInField ?y_WrongPlaces_NotInField ?s_WrongPlaces_NotInField ?ne_WrongPlaces_NotInField)
      _
      _
      (Vb.dn_mk (PySem.W.mg_of KX G ?a__wall) ?l__wall ?c__wall ?k__wall fun _ _ _ _ _ _ us hl => match us, hl with | [_], _ => rfl)
      _
      _
      (Vb.dn_mk (PySem.W.mg_of KX G ?a_is_whole) ?l_is_whole ?c_is_whole ?k_is_whole fun _ _ _ _ _ _ us hl => match us, hl with | [_], _ => rfl)
      _
      _
      (Vb.dn_mk (PySem.W.mg_of KX G ?a_is_number) ?l_is_number ?c_is_number ?k_is_number fun _ _ _ _ _ _ us hl => match us, hl with | [_, _], _ => rfl)
      _
      _
      (Vb.dn_mk (PySem.W.mg_of KX G ?a_check_number) ?l_check_number ?c_check_number ?k_check_number fun _ _ _ _ _ _ us hl => match us, hl with | [_, _], _ => rfl)
      _
      _
      (Vb.dn_mk (PySem.W.mg_of KX G ?a_check_numbers) ?l_check_numbers ?c_check_numbers ?k_check_numbers fun _ _ _ _ _ _ us hl => match us, hl with | [_, _], _ => rfl)
      _
      _
      (Vb.dn_mk (PySem.W.mg_of KX G ?a_check_range) ?l_check_range ?c_check_range ?k_check_range fun _ _ _ _ _ _ us hl => match us, hl with | [_, _, _], _ => rfl)
      _
      _
      (Vb.dn_mk (PySem.W.mg_of KX G ?a_check_at_most) ?l_check_at_most ?c_check_at_most ?k_check_at_most fun _ _ _ _ _ _ us hl => match us, hl with | [_, _], _ => rfl)
      _
      _
      (Vb.dn_mk (PySem.W.mg_of KX G ?a_check_length) ?l_check_length ?c_check_length ?k_check_length fun _ _ _ _ _ _ us hl => match us, hl with | [_, _], _ => rfl)
      _
      _
      (Vb.dn_mk (PySem.W.mg_of KX G ?a_is_prime) ?l_is_prime ?c_is_prime ?k_is_prime fun _ _ _ _ _ _ us hl => match us, hl with | [_], _ => rfl)
      _
      _
      (Vb.dn_mk (PySem.W.mg_of KX G ?a_check_prime) ?l_check_prime ?c_check_prime ?k_check_prime fun _ _ _ _ _ _ us hl => match us, hl with | [_], _ => rfl)
      _
      _
      (Vb.dn_mk (PySem.W.mg_of KX G ?a_power_modulo) ?l_power_modulo ?c_power_modulo ?k_power_modulo fun _ _ _ _ _ _ us hl => match us, hl with | [_, _, _], _ => rfl)
      _
      _
      (Vb.dn_mk (PySem.W.mg_of KX G ?a_check_primes) ?l_check_primes ?c_check_primes ?k_check_primes fun _ _ _ _ _ _ us hl => match us, hl with | [_], _ => rfl)
      _
      _
      (Vb.dn_mk (PySem.W.mg_of KX G ?a_residues) ?l_residues ?c_residues ?k_residues fun _ _ _ _ _ _ us hl => match us, hl with | [_, _], _ => rfl)
      _
      _
      (Vb.dn_mk (PySem.W.mg_of KX G ?a_from_residues) ?l_from_residues ?c_from_residues ?k_from_residues fun _ _ _ _ _ _ us hl => match us, hl with | [_, _], _ => rfl)
      _
      _
      (Vb.dn_mk (PySem.W.mg_of KX G ?a__law_mix) ?l__law_mix ?c__law_mix ?k__law_mix fun _ _ _ _ _ _ us hl => match us, hl with | [_, _], _ => rfl)
      _
      _
      (Vb.dn_mk (PySem.W.mg_of KX G ?a__law_store) ?l__law_store ?c__law_store ?k__law_store fun _ _ _ _ _ _ us hl => match us, hl with | [_], _ => rfl)
      _
      _
      (Vb.dn_mk (PySem.W.mg_of KX G ?a__law_take) ?l__law_take ?c__law_take ?k__law_take fun _ _ _ _ _ _ us hl => match us, hl with | [_, _], _ => rfl)
      _
      _
      (Vb.dn_mk (PySem.W.mg_of KX G ?a__law_edge) ?l__law_edge ?c__law_edge ?k__law_edge fun _ _ _ _ _ _ us hl => match us, hl with | [_, _, _], _ => rfl)
      _
      _
      (Vb.dn_mk (PySem.W.mg_of KX G ?a__law_pick) ?l__law_pick ?c__law_pick ?k__law_pick fun _ _ _ _ _ _ us hl => match us, hl with | [_, _], _ => rfl)
      _
      _
      (Vb.dn_mk (PySem.W.mg_of KX G ?a__law_big) ?l__law_big ?c__law_big ?k__law_big fun _ _ _ _ _ _ us hl => match us, hl with | [_, _], _ => rfl)
      _
      _
      (Vb.dn_mk (PySem.W.mg_of KX G ?a__law_any_count) ?l__law_any_count ?c__law_any_count ?k__law_any_count fun _ _ _ _ _ _ us hl => match us, hl with | [_], _ => rfl)
      _
      _
      (Vb.dn_mk (PySem.W.mg_of KX G ?a__law_other_kind) ?l__law_other_kind ?c__law_other_kind ?k__law_other_kind fun _ _ _ _ _ _ us hl => match us, hl with | [_], _ => rfl)
      _
      _
      (Vb.dn_mk (PySem.W.mg_of KX G ?a__law_bad_integer) ?l__law_bad_integer ?c__law_bad_integer ?k__law_bad_integer fun _ _ _ _ _ _ us hl => match us, hl with | [_, _, _], _ => rfl)
      _
      _
      (Vb.dn_mk (PySem.W.mg_of KX G ?a__law_primes) ?l__law_primes ?c__law_primes ?k__law_primes fun _ _ _ _ _ _ us hl => match us, hl with | [_], _ => rfl)
      _
      _
      (Vb.dn_mk (PySem.W.mg_of KX G ?a__law_prime) ?l__law_prime ?c__law_prime ?k__law_prime fun _ _ _ _ _ _ us hl => match us, hl with | [_], _ => rfl)
      _
      _
      (Vb.dn_mk (PySem.W.mg_of KX G ?a__law_number) ?l__law_number ?c__law_number ?k__law_number fun _ _ _ _ _ _ us hl => match us, hl with | [_, _], _ => rfl)
      _
      _
      (Vb.dn_mk (PySem.W.mg_of KX G ?a__law_row) ?l__law_row ?c__law_row ?k__law_row fun _ _ _ _ _ _ us hl => match us, hl with | [_, _], _ => rfl)
      _
      _
      (Vb.dn_mk (PySem.W.mg_of KX G ?a__law_bad_number) ?l__law_bad_number ?c__law_bad_number ?k__law_bad_number fun _ _ _ _ _ _ us hl => match us, hl with | [_, _], _ => rfl)
      _
      _
      (Vb.dn_mk (PySem.W.mg_of KX G ?a__law_bad_prime) ?l__law_bad_prime ?c__law_bad_prime ?k__law_bad_prime fun _ _ _ _ _ _ us hl => match us, hl with | [_], _ => rfl)
      _
      _
      (Vb.dn_mk (PySem.W.mg_of KX G ?a__law_same) ?l__law_same ?c__law_same ?k__law_same fun _ _ _ _ _ _ us hl => match us, hl with | [_, _], _ => rfl)
      _
      _
      (Vb.dn_mk (PySem.W.mg_of KX G ?a__law_integer) ?l__law_integer ?c__law_integer ?k__law_integer fun _ _ _ _ _ _ us hl => match us, hl with | [_], _ => rfl)
      _
      _
      (Vb.dn_mk (PySem.W.mg_of KX G ?a__law_copy) ?l__law_copy ?c__law_copy ?k__law_copy fun _ _ _ _ _ _ us hl => match us, hl with | [_], _ => rfl)
      _
      _
      (Vb.dn_mk (PySem.W.mg_of KX G ?a__law_spoil_list) ?l__law_spoil_list ?c__law_spoil_list ?k__law_spoil_list fun _ _ _ _ _ _ us hl => match us, hl with | [_], _ => rfl)
      _
      _
      (Vb.dn_mk (PySem.W.mg_of KX G ?a__law_prime_row) ?l__law_prime_row ?c__law_prime_row ?k__law_prime_row fun _ _ _ _ _ _ us hl => match us, hl with | [_, _], _ => rfl)
      _
      _
      (Vb.dn_mk (PySem.W.mg_of KX G ?a__law_bad_primes) ?l__law_bad_primes ?c__law_bad_primes ?k__law_bad_primes fun _ _ _ _ _ _ us hl => match us, hl with | [_], _ => rfl)
      _
      _
      (Vb.dn_mk (PySem.W.mg_of KX G ?a__law_class_names) ?l__law_class_names ?c__law_class_names ?k__law_class_names fun _ _ _ _ _ _ us hl => match us, hl with | [_], _ => rfl)
      _
      _
      (Vb.dn_mk (PySem.W.mg_of KX G ?a__law_asked) ?l__law_asked ?c__law_asked ?k__law_asked fun _ _ _ _ _ _ us hl => match us, hl with | [_, _, _], _ => rfl)
      _
      _
      (Vb.dn_mk (PySem.W.mg_of KX G ?a__law_told) ?l__law_told ?c__law_told ?k__law_told fun _ _ _ _ _ _ us hl => match us, hl with | [_, _, _, _], _ => rfl)
      _
      _
      (Vb.dn_mk (PySem.W.mg_of KX G ?a__law_product) ?l__law_product ?c__law_product ?k__law_product fun _ _ _ _ _ _ us hl => match us, hl with | [_], _ => rfl)
      _
      _
      (Vb.dn_mk (PySem.W.mg_of KX G ?a__law_rests) ?l__law_rests ?c__law_rests ?k__law_rests fun _ _ _ _ _ _ us hl => match us, hl with | [_, _], _ => rfl)
      _
      _
      (Vb.dn_mk (PySem.W.mg_of KX G ?a__law_residues_are) ?l__law_residues_are ?c__law_residues_are ?k__law_residues_are fun _ _ _ _ _ _ us hl => match us, hl with | [_, _, _], _ => rfl)
      _
      _
      (Vb.dn_mk (PySem.W.mg_of KX G ?a__law_undone) ?l__law_undone ?c__law_undone ?k__law_undone fun _ _ _ _ _ _ us hl => match us, hl with | [_, _, _], _ => rfl)
      _
      _
      (Vb.dn_mk (PySem.W.mg_of KX G ?a__law_bent_rests) ?l__law_bent_rests ?c__law_bent_rests ?k__law_bent_rests fun _ _ _ _ _ _ us hl => match us, hl with | [_, _, _], _ => rfl)
      _
      _
      (Vb.dn_mk (PySem.W.mg_of KX G ?a__law_refused) ?l__law_refused ?c__law_refused ?k__law_refused fun _ _ _ _ _ _ us hl => match us, hl with | [_, _, _], _ => rfl)
      _
      _
      (Vb.dn_mk (PySem.W.mg_of KX G ?a_law) ?l_law ?c_law ?k_law fun _ _ _ _ _ _ us hl => match us, hl with | [_], _ => rfl)
      _
      (PySem.W.mg_of KX G ?a_Field)
      ⟨?pg_Field, ?hd_Field, ?po_Field, ?sa_Field⟩
      _
      _
      ⟨?ma_Field___init__, ?mf_Field___init__, ?mk_Field___init__⟩
      (Vb.dm_mk ?l_Field___init__ ?c_Field___init__ ?k_Field___init__ fun _ _ _ _ _ _ us hl => match us, hl with | [_, _], _ => rfl)
      _
      _
      ⟨?ma_Field___contains__, ?mf_Field___contains__, ?mk_Field___contains__⟩
      (Vb.dm_mk ?l_Field___contains__ ?c_Field___contains__ ?k_Field___contains__ fun _ _ _ _ _ _ us hl => match us, hl with | [_, _], _ => rfl)
      _
      _
      ⟨?ma_Field___eq__, ?mf_Field___eq__, ?mk_Field___eq__⟩
      (Vb.dm_mk ?l_Field___eq__ ?c_Field___eq__ ?k_Field___eq__ fun _ _ _ _ _ _ us hl => match us, hl with | [_, _], _ => rfl)
      _
      _
      ⟨?ma_Field_add, ?mf_Field_add, ?mk_Field_add⟩
      (Vb.dm_mk ?l_Field_add ?c_Field_add ?k_Field_add fun _ _ _ _ _ _ us hl => match us, hl with | [_, _, _], _ => rfl)
      _
      _
      ⟨?ma_Field_subtract, ?mf_Field_subtract, ?mk_Field_subtract⟩
      (Vb.dm_mk ?l_Field_subtract ?c_Field_subtract ?k_Field_subtract fun _ _ _ _ _ _ us hl => match us, hl with | [_, _, _], _ => rfl)
      _
      _
      ⟨?ma_Field_multiply, ?mf_Field_multiply, ?mk_Field_multiply⟩
      (Vb.dm_mk ?l_Field_multiply ?c_Field_multiply ?k_Field_multiply fun _ _ _ _ _ _ us hl => match us, hl with | [_, _, _], _ => rfl)
      _
      _
      ⟨?ma_Field_divide, ?mf_Field_divide, ?mk_Field_divide⟩
      (Vb.dm_mk ?l_Field_divide ?c_Field_divide ?k_Field_divide fun _ _ _ _ _ _ us hl => match us, hl with | [_, _, _], _ => rfl)
      _
      _
      ⟨?ma_Field_negate, ?mf_Field_negate, ?mk_Field_negate⟩
      (Vb.dm_mk ?l_Field_negate ?c_Field_negate ?k_Field_negate fun _ _ _ _ _ _ us hl => match us, hl with | [_, _], _ => rfl)
      _
      _
      ⟨?ma_Field_invert, ?mf_Field_invert, ?mk_Field_invert⟩
      (Vb.dm_mk ?l_Field_invert ?c_Field_invert ?k_Field_invert fun _ _ _ _ _ _ us hl => match us, hl with | [_, _], _ => rfl)
      _
      _
      ⟨?ma_Field_power, ?mf_Field_power, ?mk_Field_power⟩
      (Vb.dm_mk ?l_Field_power ?c_Field_power ?k_Field_power fun _ _ _ _ _ _ us hl => match us, hl with | [_, _, _], _ => rfl)
      _
      _
      ⟨?ma_Field_reduce, ?mf_Field_reduce, ?mk_Field_reduce⟩
      (Vb.dm_mk ?l_Field_reduce ?c_Field_reduce ?k_Field_reduce fun _ _ _ _ _ _ us hl => match us, hl with | [_, _], _ => rfl)
      _
      _
      ⟨?ma_Field_members, ?mf_Field_members, ?mk_Field_members⟩
      (Vb.dm_mk ?l_Field_members ?c_Field_members ?k_Field_members fun _ _ _ _ _ _ us hl => match us, hl with | [_], _ => rfl)
      ⟨?mm_Field, ?mi_Field, ?mn_Field, ?mp_Field⟩
      ?n_Field_prime
      ?xs_NotInField_NotPrime
      ?xs_TalkError_NotPrime
      ?xs_TalkError_NotInField
      ?xs_TooLarge_NotPrime
      ?xs_Repeated_NotPrime
      ?xs_OutOfRange_NotPrime
      ?xs_WrongPlaces_NotPrime
      ?xs_TooLarge_NotInField
      ?xs_Repeated_NotInField
      ?xs_OutOfRange_NotInField
      ?xs_WrongPlaces_NotInField
      ?xs_TooLarge_TalkError
      ?xs_Repeated_TalkError
      ?xs_OutOfRange_TalkError
      ?xs_WrongPlaces_TalkError
      ⟨?kh_Field, ?kn_Field, ?kt_Field, ?km_Field, ?kc_Field, ?ky_Field⟩
      ?sb_Field_int
      ?sb_Field_str
      ?sb_Field_NoneType
      ?sb_Field_bool
      ?sb_Field_list
      ?sb_Field_tuple
      t_TEN_TO_300
      c_TEN_TO_300
      t_MAX_PRIME
      c_MAX_PRIME
      t_MAX_TESTED
      c_MAX_TESTED
      t_MAX_EXPONENT
      c_MAX_EXPONENT
      t_MAX_PRIMES
      c_MAX_PRIMES
      (PySem.W.mg_none_of KX G ?n_ValueError)
      (PySem.W.mg_none_of KX G ?n_zip)
      (PySem.W.mg_none_of KX G ?n_max)
      (PySem.W.mg_none_of KX G ?n_range)
      (PySem.W.mg_none_of KX G ?n_tuple)
      (PySem.W.mg_none_of KX G ?n_isinstance)
      (PySem.W.mg_none_of KX G ?n_int)
      (PySem.W.mg_none_of KX G ?n_str)
      (PySem.W.mg_none_of KX G ?n_list)
      (PySem.W.mg_none_of KX G ?n_len)
      (PySem.W.mg_none_of KX G ?n_bool)
      (PySem.W.mg_none_of KX G ?n_min)
      (PySem.W.mg_none_of KX G ?n_set)
      (PySem.W.mg_none_of KX G ?n_abs)) ?hb
    (case a_TalkError => k_is)
    (case q_TalkError => k_exc)
    (case k_TalkError => k_is)
    (case e_TalkError => k_is)
    (case t_TalkError => k_is)
    (case a_NotPrime => k_is)
    (case l_NotPrime => k_is)
    (case bm_NotPrime => decide +kernel)
    (case sa_NotPrime => k_is)
    (case no_NotPrime => k_is)
    (case ic_NotPrime => k_is)
    (case tc_NotPrime => k_is)
    (case kc_NotPrime => k_is)
    (case ec_NotPrime => k_is)
    (case ty_NotPrime => k_is)
    (case lf_NotPrime => k_is)
    (case cf_NotPrime => k_is)
    (case a_NotInField => k_is)
    (case l_NotInField => k_is)
    (case bm_NotInField => decide +kernel)
    (case sa_NotInField => k_is)
    (case no_NotInField => k_is)
    (case ic_NotInField => k_is)
    (case tc_NotInField => k_is)
    (case kc_NotInField => k_is)
    (case ec_NotInField => k_is)
    (case ty_NotInField => k_is)
    (case lf_NotInField => k_is)
    (case cf_NotInField => k_is)
    (case a_WrongPlaces => k_is)
    (case q_WrongPlaces => k_exc)
    (case k_WrongPlaces => k_is)
    (case e_WrongPlaces => k_is)
    (case t_WrongPlaces => k_is)
    (case a_DivisionByZero => k_is)
    (case q_DivisionByZero => k_exc)
    (case k_DivisionByZero => k_is)
    (case e_DivisionByZero => k_is)
    (case t_DivisionByZero => k_is)
    (case a_Repeated => k_is)
    (case q_Repeated => k_exc)
    (case k_Repeated => k_is)
    (case e_Repeated => k_is)
    (case t_Repeated => k_is)
    (case a_OutOfRange => k_is)
    (case q_OutOfRange => k_exc)
    (case k_OutOfRange => k_is)
    (case e_OutOfRange => k_is)
    (case t_OutOfRange => k_is)
    (case a_TooLarge => k_is)
    (case q_TooLarge => k_exc)
    (case k_TooLarge => k_is)
    (case e_TooLarge => k_is)
    (case t_TooLarge => k_is)
    (case xcl_NotPrime => k_is)
    (case xga_NotPrime => k_is)
    (case xgg_NotPrime => k_is)
    (case xsb_NotPrime => k_is)
    (case xca_NotPrime => k_is)
    (case xsp_NotPrime => k_is)
    (case xtk_NotPrime => k_is)
    (case xmo_NotPrime => k_is)
    (case xhd_NotPrime => k_is)
    (case xss_NotPrime => k_is)
    (case xty_NotPrime => k_is)
    (case xcl_NotInField => k_is)
    (case xga_NotInField => k_is)
    (case xgg_NotInField => k_is)
    (case xsb_NotInField => k_is)
    (case xca_NotInField => k_is)
    (case xsp_NotInField => k_is)
    (case xtk_NotInField => k_is)
    (case xmo_NotInField => k_is)
    (case xhd_NotInField => k_is)
    (case xss_NotInField => k_is)
    (case xty_NotInField => k_is)
    (case xcl_TalkError => k_is)
    (case xga_TalkError => k_is)
    (case xgg_TalkError => k_is)
    (case xsb_TalkError => k_is)
    (case xca_TalkError => k_is)
    (case xsp_TalkError => k_is)
    (case xtk_TalkError => k_is)
    (case xmo_TalkError => k_is)
    (case xhd_TalkError => k_is)
    (case xss_TalkError => k_is)
    (case xty_TalkError => k_is)
    (case xcl_TooLarge => k_is)
    (case xga_TooLarge => k_is)
    (case xgg_TooLarge => k_is)
    (case xsb_TooLarge => k_is)
    (case xca_TooLarge => k_is)
    (case xsp_TooLarge => k_is)
    (case xtk_TooLarge => k_is)
    (case xmo_TooLarge => k_is)
    (case xhd_TooLarge => k_is)
    (case xss_TooLarge => k_is)
    (case xty_TooLarge => k_is)
    (case xcl_Repeated => k_is)
    (case xga_Repeated => k_is)
    (case xgg_Repeated => k_is)
    (case xsb_Repeated => k_is)
    (case xca_Repeated => k_is)
    (case xsp_Repeated => k_is)
    (case xtk_Repeated => k_is)
    (case xmo_Repeated => k_is)
    (case xhd_Repeated => k_is)
    (case xss_Repeated => k_is)
    (case xty_Repeated => k_is)
    (case xcl_OutOfRange => k_is)
    (case xga_OutOfRange => k_is)
    (case xgg_OutOfRange => k_is)
    (case xsb_OutOfRange => k_is)
    (case xca_OutOfRange => k_is)
    (case xsp_OutOfRange => k_is)
    (case xtk_OutOfRange => k_is)
    (case xmo_OutOfRange => k_is)
    (case xhd_OutOfRange => k_is)
    (case xss_OutOfRange => k_is)
    (case xty_OutOfRange => k_is)
    (case xcl_WrongPlaces => k_is)
    (case xga_WrongPlaces => k_is)
    (case xgg_WrongPlaces => k_is)
    (case xsb_WrongPlaces => k_is)
    (case xca_WrongPlaces => k_is)
    (case xsp_WrongPlaces => k_is)
    (case xtk_WrongPlaces => k_is)
    (case xmo_WrongPlaces => k_is)
    (case xhd_WrongPlaces => k_is)
    (case xss_WrongPlaces => k_is)
    (case xty_WrongPlaces => k_is)
    (case i_NotPrime_TooLarge => k_is)
    (case y_NotPrime_TooLarge => k_is)
    (case s_NotPrime_TooLarge => k_is)
    (case ne_NotPrime_TooLarge => decide)
    (case i_NotPrime_Repeated => k_is)
    (case y_NotPrime_Repeated => k_is)
    (case s_NotPrime_Repeated => k_is)
    (case ne_NotPrime_Repeated => decide)
    (case i_NotPrime_NotPrime => k_is)
    (case y_NotPrime_NotPrime => k_is)
    (case s_NotPrime_NotPrime => k_is)
    (case i_NotPrime_OutOfRange => k_is)
    (case y_NotPrime_OutOfRange => k_is)
    (case s_NotPrime_OutOfRange => k_is)
    (case ne_NotPrime_OutOfRange => decide)
    (case i_NotPrime_WrongPlaces => k_is)
    (case y_NotPrime_WrongPlaces => k_is)
    (case s_NotPrime_WrongPlaces => k_is)
    (case ne_NotPrime_WrongPlaces => decide)
    (case i_NotPrime_NotInField => k_is)
    (case y_NotPrime_NotInField => k_is)
    (case s_NotPrime_NotInField => k_is)
    (case ne_NotPrime_NotInField => decide)
    (case i_NotInField_TooLarge => k_is)
    (case y_NotInField_TooLarge => k_is)
    (case s_NotInField_TooLarge => k_is)
    (case ne_NotInField_TooLarge => decide)
    (case i_NotInField_Repeated => k_is)
    (case y_NotInField_Repeated => k_is)
    (case s_NotInField_Repeated => k_is)
    (case ne_NotInField_Repeated => decide)
    (case i_NotInField_NotPrime => k_is)
    (case y_NotInField_NotPrime => k_is)
    (case s_NotInField_NotPrime => k_is)
    (case ne_NotInField_NotPrime => decide)
    (case i_NotInField_OutOfRange => k_is)
    (case y_NotInField_OutOfRange => k_is)
    (case s_NotInField_OutOfRange => k_is)
    (case ne_NotInField_OutOfRange => decide)
    (case i_NotInField_WrongPlaces => k_is)
    (case y_NotInField_WrongPlaces => k_is)
    (case s_NotInField_WrongPlaces => k_is)
    (case ne_NotInField_WrongPlaces => decide)
    (case i_NotInField_NotInField => k_is)
    (case y_NotInField_NotInField => k_is)
    (case s_NotInField_NotInField => k_is)
    (case i_TooLarge_TooLarge => k_is)
    (case y_TooLarge_TooLarge => k_is)
    (case s_TooLarge_TooLarge => k_is)
    (case i_TooLarge_Repeated => k_is)
    (case y_TooLarge_Repeated => k_is)
    (case s_TooLarge_Repeated => k_is)
    (case ne_TooLarge_Repeated => decide)
    (case i_TooLarge_NotPrime => k_is)
    (case y_TooLarge_NotPrime => k_is)
    (case s_TooLarge_NotPrime => k_is)
    (case ne_TooLarge_NotPrime => decide)
    (case i_TooLarge_OutOfRange => k_is)
    (case y_TooLarge_OutOfRange => k_is)
    (case s_TooLarge_OutOfRange => k_is)
    (case ne_TooLarge_OutOfRange => decide)
    (case i_TooLarge_WrongPlaces => k_is)
    (case y_TooLarge_WrongPlaces => k_is)
    (case s_TooLarge_WrongPlaces => k_is)
    (case ne_TooLarge_WrongPlaces => decide)
    (case i_TooLarge_NotInField => k_is)
    (case y_TooLarge_NotInField => k_is)
    (case s_TooLarge_NotInField => k_is)
    (case ne_TooLarge_NotInField => decide)
    (case i_Repeated_TooLarge => k_is)
    (case y_Repeated_TooLarge => k_is)
    (case s_Repeated_TooLarge => k_is)
    (case ne_Repeated_TooLarge => decide)
    (case i_Repeated_Repeated => k_is)
    (case y_Repeated_Repeated => k_is)
    (case s_Repeated_Repeated => k_is)
    (case i_Repeated_NotPrime => k_is)
    (case y_Repeated_NotPrime => k_is)
    (case s_Repeated_NotPrime => k_is)
    (case ne_Repeated_NotPrime => decide)
    (case i_Repeated_OutOfRange => k_is)
    (case y_Repeated_OutOfRange => k_is)
    (case s_Repeated_OutOfRange => k_is)
    (case ne_Repeated_OutOfRange => decide)
    (case i_Repeated_WrongPlaces => k_is)
    (case y_Repeated_WrongPlaces => k_is)
    (case s_Repeated_WrongPlaces => k_is)
    (case ne_Repeated_WrongPlaces => decide)
    (case i_Repeated_NotInField => k_is)
    (case y_Repeated_NotInField => k_is)
    (case s_Repeated_NotInField => k_is)
    (case ne_Repeated_NotInField => decide)
    (case i_OutOfRange_TooLarge => k_is)
    (case y_OutOfRange_TooLarge => k_is)
    (case s_OutOfRange_TooLarge => k_is)
    (case ne_OutOfRange_TooLarge => decide)
    (case i_OutOfRange_Repeated => k_is)
    (case y_OutOfRange_Repeated => k_is)
    (case s_OutOfRange_Repeated => k_is)
    (case ne_OutOfRange_Repeated => decide)
    (case i_OutOfRange_NotPrime => k_is)
    (case y_OutOfRange_NotPrime => k_is)
    (case s_OutOfRange_NotPrime => k_is)
    (case ne_OutOfRange_NotPrime => decide)
    (case i_OutOfRange_OutOfRange => k_is)
    (case y_OutOfRange_OutOfRange => k_is)
    (case s_OutOfRange_OutOfRange => k_is)
    (case i_OutOfRange_WrongPlaces => k_is)
    (case y_OutOfRange_WrongPlaces => k_is)
    (case s_OutOfRange_WrongPlaces => k_is)
    (case ne_OutOfRange_WrongPlaces => decide)
    (case i_OutOfRange_NotInField => k_is)
    (case y_OutOfRange_NotInField => k_is)
    (case s_OutOfRange_NotInField => k_is)
    (case ne_OutOfRange_NotInField => decide)
    (case i_WrongPlaces_TooLarge => k_is)
    (case y_WrongPlaces_TooLarge => k_is)
    (case s_WrongPlaces_TooLarge => k_is)
    (case ne_WrongPlaces_TooLarge => decide)
    (case i_WrongPlaces_Repeated => k_is)
    (case y_WrongPlaces_Repeated => k_is)
    (case s_WrongPlaces_Repeated => k_is)
    (case ne_WrongPlaces_Repeated => decide)
    (case i_WrongPlaces_NotPrime => k_is)
    (case y_WrongPlaces_NotPrime => k_is)
    (case s_WrongPlaces_NotPrime => k_is)
    (case ne_WrongPlaces_NotPrime => decide)
    (case i_WrongPlaces_OutOfRange => k_is)
    (case y_WrongPlaces_OutOfRange => k_is)
    (case s_WrongPlaces_OutOfRange => k_is)
    (case ne_WrongPlaces_OutOfRange => decide)
    (case i_WrongPlaces_WrongPlaces => k_is)
    (case y_WrongPlaces_WrongPlaces => k_is)
    (case s_WrongPlaces_WrongPlaces => k_is)
    (case i_WrongPlaces_NotInField => k_is)
    (case y_WrongPlaces_NotInField => k_is)
    (case s_WrongPlaces_NotInField => k_is)
    (case ne_WrongPlaces_NotInField => decide)
    (case a__wall => k_is)
    (case l__wall => k_is)
    (case c__wall => k_is)
    (case k__wall => k_is)
    (case a_is_whole => k_is)
    (case l_is_whole => k_is)
    (case c_is_whole => k_is)
    (case k_is_whole => k_is)
    (case a_is_number => k_is)
    (case l_is_number => k_is)
    (case c_is_number => k_is)
    (case k_is_number => k_is)
    (case a_check_number => k_is)
    (case l_check_number => k_is)
    (case c_check_number => k_is)
    (case k_check_number => k_is)
    (case a_check_numbers => k_is)
    (case l_check_numbers => k_is)
    (case c_check_numbers => k_is)
    (case k_check_numbers => k_is)
    (case a_check_range => k_is)
    (case l_check_range => k_is)
    (case c_check_range => k_is)
    (case k_check_range => k_is)
    (case a_check_at_most => k_is)
    (case l_check_at_most => k_is)
    (case c_check_at_most => k_is)
    (case k_check_at_most => k_is)
    (case a_check_length => k_is)
    (case l_check_length => k_is)
    (case c_check_length => k_is)
    (case k_check_length => k_is)
    (case a_is_prime => k_is)
    (case l_is_prime => k_is)
    (case c_is_prime => k_is)
    (case k_is_prime => k_is)
    (case a_check_prime => k_is)
    (case l_check_prime => k_is)
    (case c_check_prime => k_is)
    (case k_check_prime => k_is)
    (case a_power_modulo => k_is)
    (case l_power_modulo => k_is)
    (case c_power_modulo => k_is)
    (case k_power_modulo => k_is)
    (case a_check_primes => k_is)
    (case l_check_primes => k_is)
    (case c_check_primes => k_is)
    (case k_check_primes => k_is)
    (case a_residues => k_is)
    (case l_residues => k_is)
    (case c_residues => k_is)
    (case k_residues => k_is)
    (case a_from_residues => k_is)
    (case l_from_residues => k_is)
    (case c_from_residues => k_is)
    (case k_from_residues => k_is)
    (case a__law_mix => k_is)
    (case l__law_mix => k_is)
    (case c__law_mix => k_is)
    (case k__law_mix => k_is)
    (case a__law_store => k_is)
    (case l__law_store => k_is)
    (case c__law_store => k_is)
    (case k__law_store => k_is)
    (case a__law_take => k_is)
    (case l__law_take => k_is)
    (case c__law_take => k_is)
    (case k__law_take => k_is)
    (case a__law_edge => k_is)
    (case l__law_edge => k_is)
    (case c__law_edge => k_is)
    (case k__law_edge => k_is)
    (case a__law_pick => k_is)
    (case l__law_pick => k_is)
    (case c__law_pick => k_is)
    (case k__law_pick => k_is)
    (case a__law_big => k_is)
    (case l__law_big => k_is)
    (case c__law_big => k_is)
    (case k__law_big => k_is)
    (case a__law_any_count => k_is)
    (case l__law_any_count => k_is)
    (case c__law_any_count => k_is)
    (case k__law_any_count => k_is)
    (case a__law_other_kind => k_is)
    (case l__law_other_kind => k_is)
    (case c__law_other_kind => k_is)
    (case k__law_other_kind => k_is)
    (case a__law_bad_integer => k_is)
    (case l__law_bad_integer => k_is)
    (case c__law_bad_integer => k_is)
    (case k__law_bad_integer => k_is)
    (case a__law_primes => k_is)
    (case l__law_primes => k_is)
    (case c__law_primes => k_is)
    (case k__law_primes => k_is)
    (case a__law_prime => k_is)
    (case l__law_prime => k_is)
    (case c__law_prime => k_is)
    (case k__law_prime => k_is)
    (case a__law_number => k_is)
    (case l__law_number => k_is)
    (case c__law_number => k_is)
    (case k__law_number => k_is)
    (case a__law_row => k_is)
    (case l__law_row => k_is)
    (case c__law_row => k_is)
    (case k__law_row => k_is)
    (case a__law_bad_number => k_is)
    (case l__law_bad_number => k_is)
    (case c__law_bad_number => k_is)
    (case k__law_bad_number => k_is)
    (case a__law_bad_prime => k_is)
    (case l__law_bad_prime => k_is)
    (case c__law_bad_prime => k_is)
    (case k__law_bad_prime => k_is)
    (case a__law_same => k_is)
    (case l__law_same => k_is)
    (case c__law_same => k_is)
    (case k__law_same => k_is)
    (case a__law_integer => k_is)
    (case l__law_integer => k_is)
    (case c__law_integer => k_is)
    (case k__law_integer => k_is)
    (case a__law_copy => k_is)
    (case l__law_copy => k_is)
    (case c__law_copy => k_is)
    (case k__law_copy => k_is)
    (case a__law_spoil_list => k_is)
    (case l__law_spoil_list => k_is)
    (case c__law_spoil_list => k_is)
    (case k__law_spoil_list => k_is)
    (case a__law_prime_row => k_is)
    (case l__law_prime_row => k_is)
    (case c__law_prime_row => k_is)
    (case k__law_prime_row => k_is)
    (case a__law_bad_primes => k_is)
    (case l__law_bad_primes => k_is)
    (case c__law_bad_primes => k_is)
    (case k__law_bad_primes => k_is)
    (case a__law_class_names => k_is)
    (case l__law_class_names => k_is)
    (case c__law_class_names => k_is)
    (case k__law_class_names => k_is)
    (case a__law_asked => k_is)
    (case l__law_asked => k_is)
    (case c__law_asked => k_is)
    (case k__law_asked => k_is)
    (case a__law_told => k_is)
    (case l__law_told => k_is)
    (case c__law_told => k_is)
    (case k__law_told => k_is)
    (case a__law_product => k_is)
    (case l__law_product => k_is)
    (case c__law_product => k_is)
    (case k__law_product => k_is)
    (case a__law_rests => k_is)
    (case l__law_rests => k_is)
    (case c__law_rests => k_is)
    (case k__law_rests => k_is)
    (case a__law_residues_are => k_is)
    (case l__law_residues_are => k_is)
    (case c__law_residues_are => k_is)
    (case k__law_residues_are => k_is)
    (case a__law_undone => k_is)
    (case l__law_undone => k_is)
    (case c__law_undone => k_is)
    (case k__law_undone => k_is)
    (case a__law_bent_rests => k_is)
    (case l__law_bent_rests => k_is)
    (case c__law_bent_rests => k_is)
    (case k__law_bent_rests => k_is)
    (case a__law_refused => k_is)
    (case l__law_refused => k_is)
    (case c__law_refused => k_is)
    (case k__law_refused => k_is)
    (case a_law => k_is)
    (case l_law => k_is)
    (case c_law => k_is)
    (case k_law => k_is)
    (case a_Field => k_is)
    (case pg_Field => k_is)
    (case hd_Field => k_is)
    (case po_Field => k_is)
    (case sa_Field => k_is)
    (case ma_Field___init__ => k_is)
    (case mf_Field___init__ => k_is)
    (case mk_Field___init__ => k_is)
    (case l_Field___init__ => k_is)
    (case c_Field___init__ => k_is)
    (case k_Field___init__ => k_is)
    (case ma_Field___contains__ => k_is)
    (case mf_Field___contains__ => k_is)
    (case mk_Field___contains__ => k_is)
    (case l_Field___contains__ => k_is)
    (case c_Field___contains__ => k_is)
    (case k_Field___contains__ => k_is)
    (case ma_Field___eq__ => k_is)
    (case mf_Field___eq__ => k_is)
    (case mk_Field___eq__ => k_is)
    (case l_Field___eq__ => k_is)
    (case c_Field___eq__ => k_is)
    (case k_Field___eq__ => k_is)
    (case ma_Field_add => k_is)
    (case mf_Field_add => k_is)
    (case mk_Field_add => k_is)
    (case l_Field_add => k_is)
    (case c_Field_add => k_is)
    (case k_Field_add => k_is)
    (case ma_Field_subtract => k_is)
    (case mf_Field_subtract => k_is)
    (case mk_Field_subtract => k_is)
    (case l_Field_subtract => k_is)
    (case c_Field_subtract => k_is)
    (case k_Field_subtract => k_is)
    (case ma_Field_multiply => k_is)
    (case mf_Field_multiply => k_is)
    (case mk_Field_multiply => k_is)
    (case l_Field_multiply => k_is)
    (case c_Field_multiply => k_is)
    (case k_Field_multiply => k_is)
    (case ma_Field_divide => k_is)
    (case mf_Field_divide => k_is)
    (case mk_Field_divide => k_is)
    (case l_Field_divide => k_is)
    (case c_Field_divide => k_is)
    (case k_Field_divide => k_is)
    (case ma_Field_negate => k_is)
    (case mf_Field_negate => k_is)
    (case mk_Field_negate => k_is)
    (case l_Field_negate => k_is)
    (case c_Field_negate => k_is)
    (case k_Field_negate => k_is)
    (case ma_Field_invert => k_is)
    (case mf_Field_invert => k_is)
    (case mk_Field_invert => k_is)
    (case l_Field_invert => k_is)
    (case c_Field_invert => k_is)
    (case k_Field_invert => k_is)
    (case ma_Field_power => k_is)
    (case mf_Field_power => k_is)
    (case mk_Field_power => k_is)
    (case l_Field_power => k_is)
    (case c_Field_power => k_is)
    (case k_Field_power => k_is)
    (case ma_Field_reduce => k_is)
    (case mf_Field_reduce => k_is)
    (case mk_Field_reduce => k_is)
    (case l_Field_reduce => k_is)
    (case c_Field_reduce => k_is)
    (case k_Field_reduce => k_is)
    (case ma_Field_members => k_is)
    (case mf_Field_members => k_is)
    (case mk_Field_members => k_is)
    (case l_Field_members => k_is)
    (case c_Field_members => k_is)
    (case k_Field_members => k_is)
    (case mm_Field => k_is)
    (case mi_Field => k_is)
    (case mn_Field => k_is)
    (case mp_Field => k_is)
    (case n_Field_prime => k_is)
    (case xs_NotInField_NotPrime => k_is)
    (case xs_TalkError_NotPrime => k_is)
    (case xs_TalkError_NotInField => k_is)
    (case xs_TooLarge_NotPrime => k_is)
    (case xs_Repeated_NotPrime => k_is)
    (case xs_OutOfRange_NotPrime => k_is)
    (case xs_WrongPlaces_NotPrime => k_is)
    (case xs_TooLarge_NotInField => k_is)
    (case xs_Repeated_NotInField => k_is)
    (case xs_OutOfRange_NotInField => k_is)
    (case xs_WrongPlaces_NotInField => k_is)
    (case xs_TooLarge_TalkError => k_is)
    (case xs_Repeated_TalkError => k_is)
    (case xs_OutOfRange_TalkError => k_is)
    (case xs_WrongPlaces_TalkError => k_is)
    (case kh_Field => k_is)
    (case kn_Field => k_is)
    (case kt_Field => k_is)
    (case km_Field => k_is)
    (case kc_Field => k_is)
    (case ky_Field => k_is)
    (case sb_Field_int => k_is)
    (case sb_Field_str => k_is)
    (case sb_Field_NoneType => k_is)
    (case sb_Field_bool => k_is)
    (case sb_Field_list => k_is)
    (case sb_Field_tuple => k_is)
    (case n_ValueError => k_is)
    (case n_zip => k_is)
    (case n_max => k_is)
    (case n_range => k_is)
    (case n_tuple => k_is)
    (case n_isinstance => k_is)
    (case n_int => k_is)
    (case n_str => k_is)
    (case n_list => k_is)
    (case n_len => k_is)
    (case n_bool => k_is)
    (case n_min => k_is)
    (case n_set => k_is)
    (case n_abs => k_is)
    (case hb => exact fun s v => .of_eq rfl)
