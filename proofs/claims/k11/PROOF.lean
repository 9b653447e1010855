import PyProof.Rows.All
import Wide.All
import OpenK.AllK
import Wide.FinOn
import PyProof.EqAt
import PyProof.EqKinds
import PyProof.TupleCall
import KE.KLam
import HandS.ForMost
import HandS.Exc
import HandS.TryOnly
import HandS.ExcOwn
import HandS.WordsExc
import HandS.Lambda
import HandS.HotCalls
import HandS.IsInst
import HandS.ExcIs
import HandS.RaiseMore
import HandS.FStr
import HandS.Style
import HandS.Wide
import HandS.Defaults
import HandS.CallLocal
import HandS.Head2
import HandS.HeadHook4
import HandS.HeadWalk
import HandS.SortInts
import HandS.TupSets
import HandS.TupAny
import PySem.Challenge.RW_upanddowns_k11_rows_of_the_triangle
set_option Elab.async false
set_option linter.all false
set_option maxRecDepth 100000
set_option maxHeartbeats 2000000
namespace Up
open PySem PySem.Spec PyProof.Rows L2
/-! ### a def of the text, told by its name -/
structure DefOk (P : Program) (w : World) (K : PySem.W.Frag) (mg : Str → Option Value) (base : Heap) (CX : CXT) (k : Nat) (x : Str) (ps : List Str) (sp : Sp) : Prop where
  gl : mg x = some (.ref (He.ga K x))
  kp : PySem.W.keepIn K (.ref (He.ga K x)) = true
  ex : ∃ fd, FnOk P w K mg base CX k (He.ga K x) fd ps sp ∧ Binds K fd ps []
theorem pe_callD {X : Cx} {CX : CXT} {k j : Nat} {x : Str} {ps : List Str} {sp : Sp} {E : XK} {e : Expr} {es : List Expr} {t : TA} {p pos : Pos} (D : DefOk X.prog X.w X.K X.mg X.base CX k x ps sp) (hr : Room j X.A) (hg : Gl X x) (hx : Passes CX X E) (ha : PA X (e :: es) t)
    (hj : k ≤ j := by decide) (hdb : (x == ("__debug__" : Str)) = false := by decide) (he : starEach (e :: es) X.env = (false, eval e X.env) :: starEach es X.env := by rfl) (hpl : (backTo pos (starEach es X.env)).any (·.1) = false := by rfl) :
    PE X (.Call (.Name x p) (e :: es) [] pos) (tCall sp [] E t) := by
  obtain ⟨fd, F, b⟩ := D.ex
  exact pe_call F (hr.mono hj) hg D.gl D.kp b .nil hx ha hdb he hpl
abbrev FnT (K : PySem.W.Frag) (x : Str) (st : Stmt) (fd : FuncData) : Prop := FunD K x x (defArgs st) (defBody st) (defScope st) [] [] (He.ga K x) fd
theorem def_of {P : Program} {w : World} {K : PySem.W.Frag} {mg : Str → Option Value} {base : Heap} {CX : CXT} {k : Nat} {x : Str} {ps : List Str} {sp : Sp} {st : Stmt} (d : ∃ fd, FnT K x st fd) (g : mg x = some (.ref (He.ga K x)))
    (hb : ∀ (kV doc pm : Value) (an : Option Addr) (cdv ct : Value) (us : List Value), us.length = ps.length → bindArgs (PySem.W.fnOf x x (defArgs st) (defBody st) (defScope st) .none kV doc pm an cdv ct) ⟨us, []⟩ = pure (ps.zip us))
    (h : ∀ fd, FnT K x st fd → FnOk P w K mg base CX k (He.ga K x) fd ps sp) : DefOk P w K mg base CX k x ps sp := by
  obtain ⟨fd, F⟩ := d
  exact ⟨g, F.kp, fd, h fd F, F.bindsN hb⟩
theorem passOut {X : Cx} {E : XK} (tk : Takes X (fun cls d _ H => E cls d H)) : Passes (L2.CX X.prog X.w) X E := passes_call tk fun _ _ _ _ h => h
theorem sz (n : Nat) (h : n ≤ 1000 := by decide) : n ≤ sizeLine := Nat.le_trans h (by decide)
theorem szl (n : Nat) (h : n ≤ 1000 := by decide) : n < sizeLine := Nat.lt_of_le_of_lt h (by decide)
/-! ### rules with the written part K told apart (for blocks, whose context is a term) -/
def rLenQ (K : PySem.W.Frag) : List V → Hp → VK → Prop := fun xs H Q => ∃ p ys, xs = [.ref p] ∧ (SqL K H p ys ∨ SqT K H p ys) ∧ Q (.int ys.length) H
theorem lenK {X : Cx} (K : PySem.W.Frag) (h : X.K = K := by rfl) : CallR X (.builtin "len") (rLenQ K) := by subst h; exact call_len_seq
theorem ixLK {X : Cx} (K : PySem.W.Frag) (h : X.K = K := by rfl) : IxR X (rIxL K) := by subst h; exact ix_list
theorem ixTK {X : Cx} (K : PySem.W.Frag) (h : X.K = K := by rfl) : IxR X (rIxT K) := by subst h; exact ix_tup
theorem revLK {X : Cx} (K : PySem.W.Frag) {e : Expr} {te : TE} {k : Nat} {p1 p2 p3 pos : Pos} (he : PE X e te) (h : X.K = K := by rfl) : PE X (.Subscript e (.Slice none none (some (.UnaryOp .USub (.Constant (.int 1) k p1) p2)) p3) pos) (tRevL K te) := by subst h; exact pe_revL he
theorem slLK {X : Cx} (K : PySem.W.Frag) (h : X.K = K := by rfl) : SlR X (rSlL K) := by subst h; exact sl_list
theorem slTK {X : Cx} (K : PySem.W.Frag) (h : X.K = K := by rfl) : SlR X (rSlT K) := by subst h; exact sl_tup
theorem isiK {X : Cx} (K : PySem.W.Frag) (h : X.K = K := by rfl) : CallR X (.builtin "isinstance") (rIsi K) := by subst h; exact call_isi
theorem sumK {X : Cx} (K : PySem.W.Frag) (hc : X.calm = true) (h : X.K = K := by rfl) : CallR X (.builtin "sum") (rSum K) := by subst h; exact cr_sum hc
theorem anyK {X : Cx} (K : PySem.W.Frag) (hc : X.calm = true) (h : X.K = K := by rfl) : CallR X (.builtin "any") (rAny K) := by subst h; exact cr_any hc
theorem allK {X : Cx} (K : PySem.W.Frag) (hc : X.calm = true) (h : X.K = K := by rfl) : CallR X (.builtin "all") (rAll K) := by subst h; exact cr_all hc
theorem eqDK {X : Cx} (K : PySem.W.Frag) (hu : X.A.units + 64 < cLine) (h : X.K = K := by rfl) : OpR X (compareOp .Eq) (rEqD K) := by subst h; exact op_eqD hu
theorem neDK {X : Cx} (K : PySem.W.Frag) (hu : X.A.units + 64 < cLine) (h : X.K = K := by rfl) : OpR X (compareOp .NotEq) (rNeD K) := by subst h; exact op_neD hu
theorem inK {X : Cx} (K : PySem.W.Frag) (h : X.K = K := by rfl) : OpR X (compareOp .In) (rIn K false) := by subst h; exact op_in_seq
theorem notInK {X : Cx} (K : PySem.W.Frag) (h : X.K = K := by rfl) : OpR X (compareOp .NotIn) (rIn K true) := by subst h; exact op_notIn_seq
theorem catTK {X : Cx} (K : PySem.W.Frag) (h : X.K = K := by rfl) : OpR X (binaryOp .Add) (rCatT K) := by subst h; exact op_catT
/-! ### heaps -/
theorem same_new {H : Hp} {p : Addr} {o : HO} (h : H p = none) : Same H (upd H p o) := fun b x e => by
  rw [upd_ne (ne_of_none e h)]; exact e
theorem Same.ext {H H' : Hp} (s : Same H H') : LamX.ExtN H H' := fun b o h _ => s b o h
theorem ext_seq {K : PySem.W.Frag} {H H' : Hp} {a : Addr} {xs : List V} (e : LamX.ExtN H H') (h : SqL K H a xs) : SqL K H' a xs := by
  rcases h with (h | ⟨o, h⟩) | h
  · exact .inl (.inl (e _ _ h (fun _ z => by cases z)))
  · exact .inl (.inr ⟨o, e _ _ h (fun _ z => by cases z)⟩)
  · exact .inr h
theorem ext_set {H H' : Hp} {p : Addr} {o : HO} (e : LamX.ExtN H H') (n : H p = none) : LamX.ExtN H (upd H' p o) := fun b u h z => by
  rw [upd_ne (ne_of_none h n)]; exact e b u h z
theorem same_set {H H' : Hp} {p : Addr} {o : HO} (e : Same H H') (n : H p = none) : Same H (upd H' p o) := fun b u h => by
  rw [upd_ne (ne_of_none h n)]; exact e b u h
theorem tabs_same {T : List (Addr × Str)} {H H' : Hp} (t : LamX.Tabs T H) (s : Same H H') : LamX.Tabs T H' := t.ext s
/-- a list that no table and no code object stands at is changed -/
theorem tabs_upd {T : List (Addr × Str)} {H : Hp} {p : Addr} {xs : List V} {o : HO} (t : LamX.Tabs T H) (n : H p = some (.lst xs)) : LamX.Tabs T (upd H p o) := fun q hq => by
  obtain ⟨ps, h1, h2, h3⟩ := t q hq
  refine ⟨ps, ?_, h2, fun pos cv hc => ?_⟩
  · rw [upd_ne (ne_of h1 n (by intro z; cases z))]; exact h1
  · obtain ⟨c, e1, e2⟩ := h3 pos cv hc
    refine ⟨c, e1, ?_⟩
    rw [upd_ne (ne_of e2 n (by intro z; unfold LamX.CodeO at z; cases z))]; exact e2
/-! ### a def called while an exception is handled: the exception's object p stands -/
structure FnPin (P : Program) (w : World) (K : PySem.W.Frag) (mg : Str → Option Value) (base : Heap) (k : Nat) (f : Addr) (fd : FuncData) (ps : List Str) (sp : Addr × Obj → Sp) : Prop where
  len : ∀ p vs H Q E, sp p vs H Q E → vs.length = ps.length
  run : ∀ A outer s H args us vs Q E p, L2H.RoomH k A → L2H.PinOk outer H s p → Env0 P w K mg base A outer s H → BindsTo s fd args (ps.zip us) → Vals vs us → sp p vs H Q E →
    codeAny (model P w) A (.call (.ref f) args) (CR CX0 outer P w H s Q E) s
theorem pin_of {P : Program} {w : World} {K : PySem.W.Frag} {mg : Str → Option Value} {base : Heap} {k : Nat} {f : Addr} {x : Str} {prm : Arguments} {bd : List Stmt} {sc : Scope} {fd : FuncData} {N ps : List Str} {sp : Addr × Obj → Sp}
    (F : FunD K x x prm bd sc [] [] f fd) (S : FnScope N ps sc) (len : ∀ p vs H Q E, sp p vs H Q E → vs.length = ps.length)
    (hb : ∀ (cd : Value) (A : Around) (outer : List Env) (s : Shared) (H : Hp) (vs : List V) (Q : VK) (E : XK) (p : Addr × Obj), L2H.RoomH k (A.deeper (envOfC x sc s.heap.objs.size f cd)) → sp p vs H Q E →
      ∃ t, PSs (L2H.cxH CX0 P w K mg base N x sc f cd A outer s H E p) bd t ∧ t { nx := fun _ H' => Q .non H', rt := Q } (start N vs) H) : FnPin P w K mg base (k + 1) f fd ps sp := by
  obtain ⟨oc, od, dV, kV, doc, pm, an, cd, ct, osl, rfl, lk, hcd, _, _⟩ := F.ex
  refine ⟨len, ?_⟩
  intro A outer s H args us vs Q E p room pin e0 bind r hsp
  have inK : K.In s.heap := e0.mod.kin.keeps (fun b o e => (e0.bs b o e).1)
  have nolim : s.heap.NoLimit := e0.mod.nolimit.keeps (fun b o e => (e0.bs b o e).1)
  have kinds : ∀ y ∈ ps.zip us, sc.names.lookup y.1 = some .local ∨ (sc.names.lookup y.1 = some .cell ∧ ((cellsFrom (s.heap.objs.size + 1) sc.names []).lookup y.1).isSome = true) := by
    rintro ⟨n, v⟩ hy
    cases S.par n (List.of_mem_zip hy).1 with
    | inl q => exact Or.inl q
    | inr q => exact Or.inr ⟨q, PySem.W.cellsFrom_some _ _ _ (Or.inl q)⟩
  apply codeAny_call_function room.depth (inK _ _ lk) rfl S.co S.gen rfl (PySem.W.codeRec_of inK hcd)
  apply bind
  apply wpAny_newFunctionEnv_cells S.kind kinds
  intro env he s1 x1
  subst he
  refine ⟨nolim.keeps x1.toInCall.keep, codeAny_func ?_⟩
  obtain ⟨t, ht, q0⟩ := hb cd A outer s H vs Q E p (room.deeper _) hsp
  have I := L2H.inv_startH (CX := CX0) (P := P) (mg := mg) (E := E) S pin e0 (len _ _ _ _ _ hsp) r x1
  apply wpAny_mono (ht.run [] s1 (start N vs) H _ I q0)
  · intro fl s' hs
    cases fl with
    | ret u => obtain ⟨v, _, H', J, rv, z⟩ := hs; exact ⟨v, H', J.os, J.bare, J.base, J.hok, rv, z⟩
    | next => obtain ⟨_, H', J, z⟩ := hs; exact ⟨.non, H', J.os, J.bare, J.base, J.hok, rfl, z⟩
    | brk => obtain ⟨_, _, _, z⟩ := hs; exact z.elim
    | cont => obtain ⟨_, _, _, z⟩ := hs; exact z.elim
  · intro e s' hs
    exact hs
/-- such a def told by its name -/
structure PinOkD (P : Program) (w : World) (K : PySem.W.Frag) (mg : Str → Option Value) (base : Heap) (k : Nat) (x : Str) (ps : List Str) (sp : Addr × Obj → Sp) : Prop where
  gl : mg x = some (.ref (He.ga K x))
  kp : PySem.W.keepIn K (.ref (He.ga K x)) = true
  ex : ∃ fd, FnPin P w K mg base k (He.ga K x) fd ps sp ∧ Binds K fd ps []
theorem pindef_of {P : Program} {w : World} {K : PySem.W.Frag} {mg : Str → Option Value} {base : Heap} {k : Nat} {x : Str} {ps : List Str} {sp : Addr × Obj → Sp} {st : Stmt} (d : ∃ fd, FnT K x st fd) (g : mg x = some (.ref (He.ga K x)))
    (hb : ∀ (kV doc pm : Value) (an : Option Addr) (cdv ct : Value) (us : List Value), us.length = ps.length → bindArgs (PySem.W.fnOf x x (defArgs st) (defBody st) (defScope st) .none kV doc pm an cdv ct) ⟨us, []⟩ = pure (ps.zip us))
    (h : ∀ fd, FnT K x st fd → FnPin P w K mg base k (He.ga K x) fd ps sp) : PinOkD P w K mg base k x ps sp := by
  obtain ⟨fd, F⟩ := d
  exact ⟨g, F.kp, fd, h fd F, F.bindsN hb⟩
def tCallP (sp : Addr × Obj → Sp) (q : Addr × Obj) (E : XK) (t : TA) : TE := fun σ H Q => t σ H fun vs H1 => sp q vs H1 Q E
theorem pe_callP {X : Cx} {k : Nat} {x : Str} {ps : List Str} {sp : Addr × Obj → Sp} {E : XK} {e : Expr} {es : List Expr} {t : TA} {p pos : Pos} {q : Addr × Obj} (D : PinOkD X.prog X.w X.K X.mg X.base k x ps sp) (hr : L2H.RoomH k X.A) (hq : q ∈ X.pn) (hg : Gl X x) (ha : PA X (e :: es) t)
    (hdb : (x == ("__debug__" : Str)) = false := by decide) (he : starEach (e :: es) X.env = (false, eval e X.env) :: starEach es X.env := by rfl) (hpl : (backTo pos (starEach es X.env)).any (·.1) = false := by rfl) :
    PE X (.Call (.Name x p) (e :: es) [] pos) (tCallP sp q E t) := by
  obtain ⟨fd, F, hb⟩ := D.ex
  constructor
  intro pins s σ H Q I h
  apply wpAny_Call_Name_kw
  apply ld_glob I hg D.gl _ hdb
  refine PySem.W.callWith_K (h₀ := X.base) I.ok.mod.kin D.kp (thn (ha.run pos pins s σ H _ I h) ?_) he hpl
  rintro us s1 ⟨vs, H1, I1, r, z⟩
  refine ⟨I1.kIn, ?_⟩
  have hl : us.length = ps.length := r.length ▸ F.len _ _ _ _ _ z
  have b := hb s1 us I1.kIn (by rw [List.append_nil]; exact hl)
  rw [List.append_nil] at b
  obtain ⟨p1, p2, p3, p4, p5⟩ := I1.pin q (List.mem_append_left _ hq)
  have pin : L2H.PinOk X.stack H1 s1 q := by
    refine ⟨p1, p2, fun hm => ?_, p5⟩
    cases List.mem_cons.mp (I1.stkSub q.1 hm) with
    | inl z => exact p3 z
    | inr z => exact p4 z
  apply wpAny_call
  apply codeAny_mono (F.run X.A X.stack s1 H1 ⟨us, []⟩ us vs Q E q hr pin I1.env0 b r z)
  intro rr s' hq'
  cases rr with
  | error e => exact (show False from hq').elim
  | ok fl =>
    cases fl with
    | ret u => exact I1.after hq'
    | next => exact False.elim hq'
    | brk => exact False.elim hq'
    | cont => exact False.elim hq'
theorem roomH_mark {k : Nat} {A : Around} {v : Option Value} (r : Room k A) : L2H.RoomH k (A.mark v) := ⟨r.dp, r.un⟩
/-! ### isinstance of such an exception; count in a list of flat things -/
theorem call_isPin {X : Cx} {D : Addr} {q : Addr × Obj} (C : ExcC X.K D) (hz : Zc (.ref D) none q.2) (hf : ∃ vs, q.2.data = .fields vs) (hm : q ∈ X.pn) : CallR X (.builtin "isinstance") (rIsE X.K D q.1) := by
  intro pins s σ H xs us Q I r h
  obtain ⟨c, cv, b, rfl, hcv, e, z⟩ := h
  obtain ⟨u1, u2, rfl, r1, r2⟩ := vals2 r
  obtain rfl : u1 = Value.ref q.1 := r1
  obtain rfl := hcv _ r2
  have hget := (I.pin q (List.mem_append_left _ hm)).1
  obtain ⟨vs, hv⟩ := hf
  have J : PySem.W.InstAt s.heap q.1 q.2 D none := by
    obtain ⟨qa, oc, od, dt, sl⟩ := q
    obtain ⟨z1, z2⟩ := hz
    simp only at z1 z2 hv
    subst z1 z2 hv
    exact ⟨hget, rfl, rfl, trivial⟩
  refine PySem.W.kia_one (PySem.W.handS_kitx_exc C.hg C.hk C.hs C.hd C.ha C.hn C.ht C.hm) I.kIn J e (fun y => nomatch y) ?_
  exact fun tk => ⟨.bl b, H, I.kept (t' := tk) (fun _ _ y => y), rfl, z⟩
theorem countP_eqU {y : V} : ∀ {ys : List V} {us : List Value}, Vals ys us → ys.all flatV = true → us.countP (eqU y) = ys.countP fun z => eqV z y
  | [], _, r, _ => by cases r; rfl
  | z :: zs, _, r, f => by
    cases r with
    | cons r1 r2 =>
      rw [List.all_cons, Bool.and_eq_true] at f
      rw [List.countP_cons, List.countP_cons, countP_eqU r2 f.2, eqU_of r1 f.1]
def rCountF (K : PySem.W.Frag) : V → List V → Hp → VK → Prop := fun x xs H Q => ∃ (a : Addr) (ys : List V) (y : V), x = .ref a ∧ xs = [y] ∧ SqL K H a ys ∧ flatV y = true ∧ ys.all flatV = true ∧ Q (.int ((ys.countP fun z => eqV z y : Nat) : Int)) H
theorem mt_countF {X : Cx} : MtR X "list.count" (rCountF X.K) := by
  intro pins s σ H x xs v us Q I rx rxs h
  obtain ⟨a, ys, y, rfl, rfl, hs, fy, fys, q⟩ := h
  obtain rfl : v = Value.ref a := rx
  obtain ⟨u, rfl, ru⟩ := rxs.one
  obtain ⟨its, rv, ⟨⟨cls, dd, data, sl⟩, n, ho, hc, hdn, hd⟩, hlen⟩ := I.list hs
  simp only at hc hd
  subst hc hd
  refine call_meets PySem.F.slot_list_count ⟨_, ho, rfl⟩ PySem.F.entry_list_count (PySem.F.args_list_count_2 _ _) (SeqAt.list_countAt a its.toArray n dd sl u (eqU y)) ⟨ho, fun u' hu' => mem_eqAt ru fy rv fys u' (by simpa using hu'), ?_⟩
  have ec : its.toArray.toList.countP (eqU y) = ys.countP fun z => eqV z y := by simpa using countP_eqU rv fys
  exact ⟨.int ((ys.countP fun z => eqV z y : Nat) : Int), H, I.tok _, ⟨s.toks, by rw [← ec]⟩, q⟩
/-! ### the refusals: which class an exception is of -/
def kinds : List Str := ["NoOrder", "NoNumber", "NoRow", "NotUpDown", "NoPattern", "NoTree", "NoRing", "NoText", "NoDeed", "NoLine", "NoLoose", "NoFraction"]
def words : List Str := ["order", "number", "line of numbers", "updown", "pattern", "tree", "ring", "text", "deed"]
def words2 : List Str := ["line", "loose", "fraction"]
def kindsAt (j : Nat) : List V := [.bl (decide (0 = j)), .bl (decide (1 = j)), .bl (decide (2 = j))] ++ [.bl (decide (3 = j)), .bl (decide (4 = j)), .bl (decide (5 = j))] ++ [.bl (decide (6 = j)), .bl (decide (7 = j)), .bl (decide (8 = j))] ++ [.bl (decide (9 = j)), .bl (decide (10 = j)), .bl (decide (11 = j))]
theorem kinds_count : ∀ j, j < 12 → (kindsAt j).countP (fun z => eqV z (.bl true)) = 1 := by decide
theorem kinds_here : ∀ j, j < 12 → (kindsAt j)[j]? = some (.bl true) := by decide
theorem kinds_ahead : ∀ j, j < 12 → ∀ m, m < j → (kindsAt j)[m]? = some (.bl false) := by decide
theorem kinds_flat (j : Nat) : (kindsAt j).all flatV = true := rfl
structure ClassIs (K : PySem.W.Frag) (C : Addr) (j : Nat) : Prop where
  lt : j < 12
  exc : ExcC K C
  turn : PySem.W.kitOne K (.ref C) (.ref (He.ga K "TurnError")) = some true
  val : PySem.W.kitOne K (.ref C) (.type "ValueError") = some true
  caught : PySem.W.exmOne K (.ref C) (.ref (He.ga K "TurnError")) = some true
  each : ∀ i x, kinds[i]? = some x → PySem.W.kitOne K (.ref C) (.ref (He.ga K x)) = some (decide (i = j))
def excB (K : PySem.W.Frag) (D : Addr) : Bool := He.eqO (PySem.W.findIn K (.ref D) "__getattribute__") (some (some (.builtin "BaseException.__getattribute__"))) && (He.eqO (PySem.W.findIn K (.ref D) "__getattr__") (some none) && (decide (PySem.W.subIn K (.ref D) (.type "BaseException") = some true) &&
  (PySem.W.hasDictIn K D && (He.eqO (PySem.W.findIn K (.ref D) "__class__") (some (some (.builtin "object.__class__"))) && (He.eqO (PySem.W.specialIn K (.builtin "object.__class__") "__get__") (some (some (.builtin "getset_descriptor.__get__"))) && (decide (PySem.W.takesIn K (.builtin "object.__class__") = some true) && decide (PySem.W.mroIn K D (.type "object") = some true)))))))
theorem excB_ok {K : PySem.W.Frag} {D : Addr} (h : excB K D = true) : ExcC K D := by
  obtain ⟨h1, h⟩ := He.ba h
  obtain ⟨h2, h⟩ := He.ba h
  obtain ⟨h3, h⟩ := He.ba h
  obtain ⟨h4, h⟩ := He.ba h
  obtain ⟨h5, h⟩ := He.ba h
  obtain ⟨h6, h⟩ := He.ba h
  obtain ⟨h7, h8⟩ := He.ba h
  exact ⟨He.eqO_ok h1, He.eqO_ok h2, of_decide_eq_true h3, h4, He.eqO_ok h5, He.eqO_ok h6, of_decide_eq_true h7, of_decide_eq_true h8⟩
def classB (K : PySem.W.Frag) (j : Nat) (x : Str) : Bool := decide (j < 12) && (excB K (He.ga K x) && (decide (PySem.W.kitOne K (.ref (He.ga K x)) (.ref (He.ga K "TurnError")) = some true) && (decide (PySem.W.kitOne K (.ref (He.ga K x)) (.type "ValueError") = some true) && (decide (PySem.W.exmOne K (.ref (He.ga K x)) (.ref (He.ga K "TurnError")) = some true) &&
  (List.range 12).all fun i => decide (PySem.W.kitOne K (.ref (He.ga K x)) (.ref (He.ga K (kinds.getD i ""))) = some (decide (i = j)))))))
theorem classB_ok {K : PySem.W.Frag} {j : Nat} {x : Str} (h : classB K j x = true) : ClassIs K (He.ga K x) j := by
  obtain ⟨h1, h⟩ := He.ba h
  obtain ⟨h2, h⟩ := He.ba h
  obtain ⟨h3, h⟩ := He.ba h
  obtain ⟨h4, h⟩ := He.ba h
  obtain ⟨h5, h6⟩ := He.ba h
  refine ⟨of_decide_eq_true h1, excB_ok h2, of_decide_eq_true h3, of_decide_eq_true h4, of_decide_eq_true h5, fun i x' e => ?_⟩
  have hi : i < 12 := (List.getElem?_eq_some_iff.mp e).1
  have z := of_decide_eq_true (List.all_eq_true.mp h6 i (List.mem_range.mpr hi))
  have ex : kinds.getD i "" = x' := by rw [List.getD_eq_getElem?_getD, e]; rfl
  rw [ex] at z
  exact z
/-! ### a thing of whatever kind -/
def tyNames : List String := ["int", "bool", "NoneType", "str", "tuple", "list", "dict"]
theorem kit_int : ∀ ty ∈ tyNames, kitB ty "int" = some (ty == "int" || ty == "bool") := by decide +kernel
theorem kit_bool : ∀ ty ∈ tyNames, kitB ty "bool" = some (ty == "bool") := by decide +kernel
theorem kit_whole : ∀ ty ∈ tyNames, (ty == "int" || ty == "bool") = true → (!(ty == "bool")) = (ty == "int") := by decide
theorem kit_str : ∀ ty ∈ tyNames, kitB ty "str" = some (ty == "str") := by decide +kernel
theorem kit_tuple : ∀ ty ∈ tyNames, kitB ty "tuple" = some (ty == "tuple") := by decide +kernel
theorem kit_list : ∀ ty ∈ tyNames, kitB ty "list" = some (ty == "list") := by decide +kernel
/-- b: it is a whole number -/
structure Thing (K : PySem.W.Frag) (H : Hp) (x : V) (b : Bool) : Prop where
  ex : ∃ ty, TyX K H x (.type ty) ∧ ty ∈ tyNames ∧ (ty == "int") = b
  int : b = true → ∃ i, x = .int i
  non : b = false → ∀ i, x ≠ .int i
theorem thing_int {K : PySem.W.Frag} {H : Hp} (i : Int) : Thing K H (.int i) true := ⟨⟨"int", .base (.int i), by decide, rfl⟩, fun _ => ⟨i, rfl⟩, fun z => nomatch z⟩
theorem thing_bl {K : PySem.W.Frag} {H : Hp} (c : Bool) : Thing K H (.bl c) false := ⟨⟨"bool", .base (.bl c), by decide, rfl⟩, (fun z => nomatch z), fun _ _ z => nomatch z⟩
theorem thing_non {K : PySem.W.Frag} {H : Hp} : Thing K H .non false := ⟨⟨"NoneType", .base .non, by decide, rfl⟩, (fun z => nomatch z), fun _ _ z => nomatch z⟩
theorem thing_str {K : PySem.W.Frag} {H : Hp} (x : Str) : Thing K H (.str x) false := ⟨⟨"str", .base (.str x), by decide, rfl⟩, (fun z => nomatch z), fun _ _ z => nomatch z⟩
theorem thing_tup {K : PySem.W.Frag} {H : Hp} {a : Addr} {xs : List V} (e : H a = some (.tup xs)) : Thing K H (.ref a) false := ⟨⟨"tuple", .base (.tup e), by decide, rfl⟩, (fun z => nomatch z), fun _ _ z => nomatch z⟩
theorem thing_lst {K : PySem.W.Frag} {H : Hp} {a : Addr} {xs : List V} (e : H a = some (.lst xs)) : Thing K H (.ref a) false := ⟨⟨"list", .base (.lst e), by decide, rfl⟩, (fun z => nomatch z), fun _ _ z => nomatch z⟩
theorem thing_dic {K : PySem.W.Frag} {H : Hp} {a : Addr} {xs : List (Key × V)} (e : H a = some (.dK xs)) : Thing K H (.ref a) false := ⟨⟨"dict", .base (.dK e), by decide, rfl⟩, (fun z => nomatch z), fun _ _ z => nomatch z⟩
def NumOk (x : V) (a b : Int) : Prop := ∃ i, x = .int i ∧ a ≤ i ∧ i ≤ b
/-! ### data -/
def intsD (ns : List Int) : PyData := .list (ns.map PyData.int)
theorem dp_ints {K : PySem.W.Frag} {H : Hp} : ∀ ns : List Int, DpAll K H (ns.map V.int) (ns.map PyData.int)
  | [] => .nil
  | n :: r => .cons (.int n) (dp_ints r)
theorem dp_list {K : PySem.W.Frag} {H : Hp} {a : Addr} {ns : List Int} (h : SqL K H a (ns.map V.int)) : Dp K H (.ref a) (intsD ns) := .lst h (dp_ints ns)
theorem lay_ints : ∀ ns : List Int, PyData.canLayAll0 (ns.map PyData.int) = true
  | [] => rfl
  | n :: r => by
    show (PyData.canLay0 (.int n) && PyData.canLayAll0 (r.map PyData.int)) = true
    rw [lay_ints r]; rfl
theorem depth_ints : ∀ ns : List Int, PyData.depthAll (ns.map PyData.int) = 0
  | [] => rfl
  | n :: r => by
    show max (PyData.depth (.int n)) (PyData.depthAll (r.map PyData.int)) = 0
    rw [depth_ints r]; rfl
theorem shaped_ints (ns : List Int) : SeqAt.shaped (intsD ns) = true := by
  show ((PyData.canLayAll0 (ns.map PyData.int)) && decide (PyData.depthAll (ns.map PyData.int) + 1 ≤ 64)) = true
  rw [lay_ints, depth_ints]; rfl
theorem eqv_ints (ns : List Int) : PyData.eqv (intsD ns) (intsD ns) = true := SeqAt.eqv_refl _ (show PyData.canLay0 (intsD ns) = true from lay_ints ns)
def rowsD (rs : List (List Int)) : PyData := .list (rs.map intsD)
theorem lay_rows : ∀ rs : List (List Int), PyData.canLayAll0 (rs.map intsD) = true
  | [] => rfl
  | n :: r => by
    show (PyData.canLayAll0 (n.map PyData.int) && PyData.canLayAll0 (r.map intsD)) = true
    rw [lay_rows r, lay_ints]; rfl
theorem depth_rows : ∀ rs : List (List Int), PyData.depthAll (rs.map intsD) ≤ 1
  | [] => Nat.zero_le _
  | n :: r => by
    show max (PyData.depthAll (n.map PyData.int) + 1) (PyData.depthAll (r.map intsD)) ≤ 1
    have z := depth_rows r
    rw [depth_ints]; omega
theorem shaped_rows (rs : List (List Int)) : SeqAt.shaped (rowsD rs) = true := by
  show ((PyData.canLayAll0 (rs.map intsD)) && decide (PyData.depthAll (rs.map intsD) + 1 ≤ 64)) = true
  have z := depth_rows rs
  rw [lay_rows, decide_eq_true (by omega)]; rfl
theorem eqv_rows (rs : List (List Int)) : PyData.eqv (rowsD rs) (rowsD rs) = true := SeqAt.eqv_refl _ (show PyData.canLay0 (rowsD rs) = true from lay_rows rs)
/-- _law_class: the word of the class that the exception is of -/
def spClass (K : PySem.W.Frag) (p : Addr × Obj) : Sp := fun vs H Q _ => vs = [.ref p.1] ∧ ∃ C j wd, Zc (.ref C) none p.2 ∧ (∃ fs, p.2.data = .fields fs) ∧ ClassIs K C j ∧ (words ++ words2)[j]? = some wd ∧ ∀ H', Same H H' → Q (.str wd) H'
/-! ### the promises that many laws share -/
def spWhole (K : PySem.W.Frag) : Sp := fun vs H Q _ => ∃ x b, vs = [x] ∧ Thing K H x b ∧ Q (.bl b) H
/-- the message's parts are short -/
def Short (a : Int) : Prop := a.natAbs.log2 < 1920 ∧ (Str.empty ++ ("the number is not from " : Str) ++ (toString a : Str)).length ≤ sizeLine ∧ (Str.empty ++ ("the number is not from " : Str) ++ (toString a : Str) ++ (" to " : Str)).length ≤ sizeLine
def spNeed (K : PySem.W.Frag) (C : Addr) : Sp := fun vs H Q E => ∃ x a b z, vs = [x, .int a, .int b] ∧ Short a ∧ (b.natAbs.log2 < 1920 ∧ (Str.empty ++ ("the number is not from " : Str) ++ (toString a : Str) ++ (" to " : Str) ++ (toString b : Str)).length ≤ sizeLine) ∧ Thing K H x z ∧
  (NumOk x a b → Q .non H) ∧ (¬ NumOk x a b → E (.ref C) none H)
def spCellAt (K : PySem.W.Frag) : Sp := fun vs H Q _ => ∃ (a : Addr) (ns : List Int) (i : Nat), vs = [.ref a, .int (i : Int)] ∧ SqL K H a (ns.map V.int) ∧ ∀ c, Q (.int c) H
def spDraw : Sp := fun vs H Q _ => ∃ c k b : Int, vs = [.int c, .int k, .int b] ∧ 0 ≤ k ∧ k < 1048576 ∧ 0 < b ∧ b < 1073741824 ∧ ∀ r, 0 ≤ r → r < b → Q (.int r) H
def spNoNumber (K : PySem.W.Frag) : Sp := fun vs H Q _ => ∃ c k a b : Int, vs = [.int c, .int k, .int a, .int b] ∧ 0 ≤ k ∧ k < 1048576 ∧ -1000 ≤ a ∧ a ≤ 1000 ∧ a ≤ b ∧ b < 10 ^ 30 ∧ ∀ v z H', Same H H' → Thing K H' v z → ¬ NumOk v a b → Q v H'
/-! ### x(lambda: ..), where x tells the word of what is raised -/
def TRef (K : PySem.W.Frag) : (XK → Hp → VK → Prop) → Hp → VK → Prop := fun tl H Q => tl (fun cls d H' => d = none ∧ ∃ C j wd, cls = .ref C ∧ ClassIs K C j ∧ (words ++ words2)[j]? = some wd ∧ ∀ H'', Same H' H'' → Q (.str wd) H'') H (fun _ H' => ∃ v, some (some (V.str "told")) = some (some v) ∧ Q v H')
def tExc (K : PySem.W.Frag) (i : Nat) (a : Addr) (cls : Value) (d : Option Addr) : TE := fun σ H Q => σ[i]? = some (some (.ref a)) ∧ d = none ∧ ∃ C j wd, cls = .ref C ∧ ClassIs K C j ∧ (words ++ words2)[j]? = some wd ∧ ∀ H', Same H H' → Q (.str wd) H'
theorem takes_len {X : Cx} {W : WX} (t : Takes X W) : Takes X (fun c d σ H => σ.length = X.N.length → W c d σ H) := by
  rintro u s' ⟨a, B, sI, pins, σ, H, cls, d, e, I, nb, up, sky, na, os, ag, hw⟩
  exact t u s' ⟨a, B, sI, pins, σ, H, cls, d, e, I, nb, up, sky, na, os, ag, hw I.len⟩
/-! ### a call of a local name that holds one of several defs, which may raise -/
structure HeldX (P : Program) (w : World) (K : PySem.W.Frag) (mg : Str → Option Value) (base : Heap) (k : Nat) (sp : Sp) (f : Addr) : Prop where
  kp : PySem.W.keepIn K (.ref f) = true
  ex : ∃ fd ps, FnOk P w K mg base (L2.CX P w) k f fd ps sp ∧ Binds K fd ps []
theorem held_of {P : Program} {w : World} {K : PySem.W.Frag} {mg : Str → Option Value} {base : Heap} {k j : Nat} {x : Str} {ps : List Str} {sp sp' : Sp} (D : DefOk P w K mg base (L2.CX P w) k x ps sp) (hj : k ≤ j) (h : ∀ vs H Q E, sp' vs H Q E → sp vs H Q E) : HeldX P w K mg base j sp' (He.ga K x) := by
  obtain ⟨fd, F, b⟩ := D.ex
  exact ⟨D.kp, fd, ps, (F.mono hj).imp h, b⟩
def tCallM (i : Nat) (fs : List Addr) (sp : Sp) (E : XK) (t : TA) : TE := fun σ H Q => ∃ f, σ[i]? = some (some (.ref f)) ∧ f ∈ fs ∧ t σ H fun vs H1 => sp vs H1 Q E
theorem pe_callM {X : Cx} {k j i : Nat} {fs : List Addr} {sp : Sp} {E : XK} {x : Str} {p pos : Pos} {e : Expr} {es : List Expr} {t : TA} (F : ∀ f ∈ fs, HeldX X.prog X.w X.K X.mg X.base k sp f) (hr : Room j X.A) (hN : X.N[i]? = some x) (hv : Vis X.env.scope x) (hx : Passes (L2.CX X.prog X.w) X E) (ha : PA X (e :: es) t)
    (hj : k ≤ j := by decide) (hdb : (x == ("__debug__" : Str)) = false := by decide) (hcd : (x == ("__classdict__" : Str)) = false := by decide) (he : starEach (e :: es) X.env = (false, eval e X.env) :: starEach es X.env := by rfl) (hpl : (backTo pos (starEach es X.env)).any (·.1) = false := by rfl) :
    PE X (.Call (.Name x p) (e :: es) [] pos) (tCallM i fs sp E t) := by
  constructor
  rintro pins s σ H Q I ⟨f, h1, h2, h3⟩
  obtain ⟨kp, fd, ps, G, b⟩ := F f h2
  refine (pe_callL (f := f) (dvs := []) (ds := []) G (hr.mono hj) hN hv kp b .nil hx ha hdb hcd he hpl).run pins s σ H Q I ⟨h1, ?_⟩
  have e0 : (fun (vs : List V) (H1 : Hp) => sp (vs ++ []) H1 Q E) = fun vs H1 => sp vs H1 Q E := by
    funext vs H1; rw [List.append_nil]
  show t σ H (fun vs H1 => sp (vs ++ []) H1 Q E)
  rw [e0]
  exact h3
/-! ### things stay -/
theorem tyx_ext {K : PySem.W.Frag} {H H' : Hp} {x : V} {t : Value} (e : LamX.ExtN H H') (h : TyX K H x t) : TyX K H' x t := by
  cases h with
  | base b =>
    cases b with
    | non => exact .base .non
    | bl c => exact .base (.bl c)
    | int i => exact .base (.int i)
    | str y => exact .base (.str y)
    | flt y => exact .base (.flt y)
    | lst z => exact .base (.lst (e _ _ z fun _ q => by cases q))
    | frz z => exact .base (.frz (e _ _ z fun _ q => by cases q))
    | tup z => exact .base (.tup (e _ _ z fun _ q => by cases q))
    | dK z => exact .base (.dK (e _ _ z fun _ q => by cases q))
    | dT z => exact .base (.dT (e _ _ z fun _ q => by cases q))
    | ins z cl ha hn htk hm => exact .base (.ins (e _ _ z fun _ q => by cases q) cl ha hn htk hm)
  | byt b => exact .byt b
  | set z => exact .set (e _ _ z fun _ q => by cases q)
  | kList z c => exact .kList z c
  | kTuple z c => exact .kTuple z c
  | kDict z c => exact .kDict z c
  | fTuple z => exact .fTuple (e _ _ z fun _ q => by cases q)
  | fDict z => exact .fDict (e _ _ z fun _ q => by cases q)
theorem thing_ext {K : PySem.W.Frag} {H H' : Hp} {x : V} {b : Bool} (e : LamX.ExtN H H') (h : Thing K H x b) : Thing K H' x b := by
  obtain ⟨ty, z, m, q⟩ := h.ex
  exact ⟨⟨ty, tyx_ext e z, m, q⟩, h.int, h.non⟩
def spBad (K : PySem.W.Frag) (C : Addr) (a b : Int) : Sp := fun vs H _ E => ∃ x z, vs = [x] ∧ Thing K H x z ∧ ¬ NumOk x a b ∧ E (.ref C) none H
def spLaw (K : PySem.W.Frag) (Pt : Addr) : Sp := fun vs H Q _ => ∃ (a : Addr) (ns : List Int), vs = [.ref a] ∧ ns.length ≤ 63 ∧ SqL K H a (ns.map V.int) ∧ H Pt = some (.tbl #[]) ∧ ∀ H', Q (.bl true) H'
theorem dp_refs {K : PySem.W.Frag} {H : Hp} : ∀ {rs : List Addr} {ds : List (List Int)}, rs.length = ds.length → (∀ (i : Nat) q d, rs[i]? = some q → ds[i]? = some d → SqL K H q (d.map V.int)) → DpAll K H (rs.map V.ref) (ds.map intsD)
  | [], [], _, _ => .nil
  | q :: rs, d :: ds, hl, h => .cons (dp_list (h 0 q d rfl rfl)) (dp_refs (by simpa using hl) fun i q' d' a b => h (i + 1) q' d' a b)
theorem dp_rows {K : PySem.W.Frag} {H : Hp} {a : Addr} {rs : List Addr} {ds : List (List Int)} (e : SqL K H a (rs.map V.ref)) (hl : rs.length = ds.length) (h : ∀ (i : Nat) q d, rs[i]? = some q → ds[i]? = some d → SqL K H q (d.map V.int)) : Dp K H (.ref a) (rowsD ds) := .lst e (dp_refs hl h)
theorem kit_ll {K : PySem.W.Frag} : PySem.W.kitOne K (.type "list") (.type "list") = some true := kit_ty (by decide +kernel)
theorem kit_ib {K : PySem.W.Frag} : PySem.W.kitOne K (.type "int") (.type "bool") = some false := kit_ty (by decide +kernel)
theorem ne_same {K : PySem.W.Frag} {H : Hp} {x y : V} {d : PyData} {Q : VK} (h1 : Dp K H x d) (h2 : Dp K H y d) (sh : SeqAt.shaped d = true) (ev : PyData.eqv d d = true) (q : Q (.bl false) H) : rNeD K x y H Q := ⟨d, d, h1, h2, sh, sh, by rw [ev]; exact q⟩
theorem eq_same {K : PySem.W.Frag} {H : Hp} {x y : V} {d : PyData} {Q : VK} (h1 : Dp K H x d) (h2 : Dp K H y d) (sh : SeqAt.shaped d = true) (ev : PyData.eqv d d = true) (q : Q (.bl true) H) : rEqD K x y H Q := ⟨d, d, h1, h2, sh, sh, by rw [ev]; exact q⟩
theorem neS_same {z : Str} {H : Hp} {Q : VK} (q : Q (.bl false) H) : rNe (.str z) (.str z) H Q := ⟨rfl, by rw [decide_eq_true rfl]; exact q⟩
theorem ne_int {i : Int} {H : Hp} {Q : VK} (q : Q (.bl false) H) : rNe (.int i) (.int i) H Q := ⟨rfl, by rw [decide_eq_true rfl]; exact q⟩
theorem sz' {n : Nat} (h : n ≤ 1000) : n ≤ sizeLine := Nat.le_trans h (by decide)
end Up

/-! the triangle's rows as plain lists -/
namespace Up
def sumsTo (ns : List Int) (i : Nat) : List Int := (List.range (i + 1)).map fun j => (ns.take j).sum
def nextRow (ns : List Int) : List Int := (sumsTo ns ns.length).reverse
def rowN : Nat → List Int
  | 0 => [1]
  | k + 1 => nextRow (rowN k)
theorem sumsTo_zero (ns : List Int) : sumsTo ns 0 = [0] := rfl
theorem sumsTo_succ (ns : List Int) (i : Nat) : sumsTo ns (i + 1) = sumsTo ns i ++ [(ns.take (i + 1)).sum] := by
  unfold sumsTo
  rw [List.range_succ (n := i + 1), List.map_append] <;> rfl
theorem sumsTo_len (ns : List Int) (i : Nat) : (sumsTo ns i).length = i + 1 := by
  unfold sumsTo
  rw [List.length_map, List.length_range]
theorem sumsTo_last (ns : List Int) : ∀ i, ∃ l, sumsTo ns i = l ++ [(ns.take i).sum]
  | 0 => ⟨[], rfl⟩
  | i + 1 => ⟨_, sumsTo_succ ns i⟩
theorem nextRow_len (ns : List Int) : (nextRow ns).length = ns.length + 1 := by
  unfold nextRow
  rw [List.length_reverse, sumsTo_len]
theorem rowN_len : ∀ k, (rowN k).length = k + 1
  | 0 => rfl
  | k + 1 => by
    show (nextRow (rowN k)).length = _
    rw [nextRow_len, rowN_len k]
def fallsL (ns : List Int) : List Int := (List.range (ns.length - 1)).map fun j => ns.getD j 0 - ns.getD (j + 1) 0
def tabRow (j : Nat) : List Int := if (j + 1) % 2 = 0 then (rowN j).reverse else rowN j
theorem tabRow_len (j : Nat) : (tabRow j).length = j + 1 := by
  unfold tabRow
  split
  · rw [List.length_reverse, rowN_len]
  · exact rowN_len j
end Up

set_option Elab.async false
set_option linter.all false
set_option maxRecDepth 100000
set_option maxHeartbeats 4000000
namespace Up
open PySem PySem.Spec PyProof.Rows L2 SrtO
section
variable {prog : Program} {w : World} {A : Around} {s : Shared}
def ltC (B : Int) (k : Value → List Int) (v u : Value) : Bool := decide (TS.code B (k v) < TS.code B (k u))
theorem swo_ltC (B : Int) (k : Value → List Int) : Swo (ltC B k) := by
  refine ⟨fun x y h => ?_, fun x y z h1 h2 => ?_⟩
  · have a := of_decide_eq_true (p := TS.code B (k x) < TS.code B (k y)) h
    exact decide_eq_false (p := TS.code B (k y) < TS.code B (k x)) (by omega)
  · have a := of_decide_eq_false (p := TS.code B (k y) < TS.code B (k x)) h1
    have b := of_decide_eq_false (p := TS.code B (k z) < TS.code B (k y)) h2
    exact decide_eq_false (p := TS.code B (k z) < TS.code B (k x)) (by omega)
def TOk (h : Heap) (d : Nat) (B : Int) (k : Value → List Int) (vs : List Value) : Prop := ∀ v ∈ vs, TS.TupInts h v (k v) ∧ (k v).length = d ∧ TS.Bd B (k v)
theorem tup_cmpC {vs : List Value} {k : Value → List Int} {d : Nat} {B : Int} (hp : TOk s.heap d B k vs) : Cmp prog w A s (tuples' true) (fun p => p.1 ∈ vs) (lt2 (ltC B k)) := by
  intro p q hm hm'
  obtain ⟨h1, l1, b1⟩ := hp _ hm
  obtain ⟨h2, l2, b2⟩ := hp _ hm'
  show wpAny (model prog w) A (keyLt' (tuples' true) p.1 q.1) (fun r s' => s' = s ∧ r = ltC B k p.1 q.1) (fun _ _ => False) s
  unfold ltC
  generalize k p.1 = ns at h1 l1 b1 ⊢
  generalize k q.1 = ms at h2 l2 b2 ⊢
  obtain ⟨a, xs, e, ⟨o, ho, hc, n, hd⟩, i1⟩ := h1
  obtain ⟨a', ys, e', ⟨o', ho', hc', n', hd'⟩, i2⟩ := h2
  rw [e, e']
  have hs : xs.size = ys.size := by
    have h3 := i1.length
    have h4 := i2.length
    rw [Array.length_toList] at h3 h4
    omega
  refine PySem.W.kat_lt ho hd ho' hd' ?_
  rw [decide_eq_false (p := xs.size < ys.size) (by omega)]
  exact TS.lex_ints 0 i1 i2 (l1.trans l2.symm) b1 b2 ⟨rfl, rfl⟩
theorem tup_sortableC {a : Addr} {vs : List Value} {k : Value → List Int} {d : Nat} {B : Int} (hd : 1 ≤ d) (h0 : 0 < vs.length) (hp : TOk s.heap d B k vs) (ha : ∀ o, s.heap.get? a = some o → o.cls ≠ .type "tuple") : SortableO prog w A s a vs (ltC B k) := by
  intro h' keep
  have hp' : TOk h' d B k vs := fun v hm => ⟨(hp v hm).1.keeps fun b o e c => keep b o (fun z => by subst z; exact ha o e c) e, (hp v hm).2⟩
  obtain ⟨fs, h1, h2, h3⟩ := TS.firsts_of (d := d) (B := B) hd vs fun v hm => ⟨k v, hp' v hm⟩
  refine ⟨tuples' true, fun Q E hq => ?_, tup_cmpC (s := { s with heap := h' }) hp'⟩
  refine PySem.W.kat_kind (T := .type "int") h1 (by omega) (fun f hm => ?_) (by rfl) ?_
  · obtain ⟨x, t, rfl⟩ := h3 f hm
    exact PySem.W.Looks.now
  · have e : (Value.type "int" != Value.type "tuple") = true := by first | decide +kernel | rfl | decide
    rw [e]
    exact hq
end
section
variable {X : Cx}
/-- tuples at these addresses, of d ints each, each in [0, B) -/
def TAt (H : Hp) (d : Nat) (B : Int) (k : Addr → List Int) (ts : List Addr) : Prop := ∀ t ∈ ts, H t = some (.tup ((k t).map V.int)) ∧ (k t).length = d ∧ TS.Bd B (k t)
/-- sorted(xs), xs a list of tuples of d ints each -/
def rSortedTC (K : PySem.W.Frag) : List V → Hp → VK → Prop := fun vs H Q => ∃ (a : Addr) (ts : List Addr) (k : Addr → List Int) (d : Nat) (B : Int), vs = [V.ref a] ∧ SqL K H a (ts.map V.ref) ∧ 1 ≤ d ∧ TAt H d B k ts ∧
  ∀ (us : List Addr) (p : Addr), us.Perm ts → us.Pairwise (fun x y => TS.code B (k x) ≤ TS.code B (k y)) → H p = none → Q (.ref p) (upd H p (.lst (us.map V.ref)))
def adr : Value → Addr
  | .ref a => a
  | _ => 0
theorem refs_only : ∀ {ts : List Addr} {us : List Value}, Vals (ts.map V.ref) us → us = ts.map Value.ref
  | [], _, .nil => rfl
  | t :: ts, _, .cons r q => by
    obtain rfl := (r : _ = Value.ref t)
    rw [List.map_cons, refs_only q]
theorem of_refs : ∀ ts : List Addr, Vals (ts.map V.ref) (ts.map Value.ref)
  | [] => .nil
  | _ :: ts => .cons rfl (of_refs ts)
theorem out_refs : ∀ {out : List Value}, (∀ v ∈ out, ∃ t, v = Value.ref t) → out = (out.map adr).map Value.ref
  | [], _ => rfl
  | v :: out, h => by
    obtain ⟨t, rfl⟩ := h v List.mem_cons_self
    rw [List.map_cons, List.map_cons, ← out_refs fun u hu => h u (List.mem_cons_of_mem _ hu)]
    rfl
theorem cr_sortedTC : CallR X (.builtin "sorted") (rSortedTC X.K) := by
  intro pins s σ H vs us Q I r h
  obtain ⟨a, ts, k, d, B, rfl, hs, hd, hx, q⟩ := h
  obtain ⟨its, rv, hl, hz⟩ := I.list hs
  obtain ⟨u, rfl, ru⟩ := vals1 r
  obtain rfl : u = Value.ref a := ru
  have ei := refs_only rv
  subst ei
  have hz' : (ts.map Value.ref).length ≤ sizeLine := by rw [List.length_map]; rw [List.length_map] at hz; exact hz
  have hp : TOk s.heap d B (fun v => k (adr v)) (ts.map Value.ref) := fun v hv => by
    obtain ⟨t, ht, rfl⟩ := List.mem_map.mp hv
    obtain ⟨h1, h2, h3⟩ := hx t ht
    obtain ⟨_, its2, r2, o, ho, hc, n, hdd⟩ := I.hok _ _ h1
    exact ⟨⟨t, its2.toArray, rfl, ⟨o, ho, hc, n, hdd⟩, intsAre_of r2⟩, h2, h3⟩
  refine SrtO.sorted_ord (swo_ltC B fun v => k (adr v)) hl.isList hz' (fun h2 h₁ a' ha kk => ?_) fun out hs' hb => ?_
  · refine tup_sortableC (s := { s with heap := h₁ }) hd (by omega) (fun v hm => ⟨(hp v hm).1.keeps fun b o e _ => (kk b o e).2, (hp v hm).2⟩) fun o e => ?_
    have e' : some o = some (seqObj "list" (ts.map Value.ref).toArray 0) := e.symm.trans ha
    cases e'
    intro c
    exact absurd (Value.type.inj c) (by decide)
  · have h3 : out = (out.map adr).map Value.ref := out_refs fun v hv => by
      obtain ⟨t, _, rfl⟩ := List.mem_map.mp (hb.perm.mem_iff.mp hv)
      exact ⟨t, rfl⟩
    have hpm : (out.map adr).Perm ts := by
      have z := hb.perm.map adr
      rw [List.map_map, show (adr ∘ Value.ref) = id from rfl, List.map_id] at z
      exact z
    obtain ⟨ep, he'⟩ := PyProof.Rows.sortedAll_at s.heap (ts.map Value.ref) out.toArray
    have hlen : ((out.map adr).map V.ref).length ≤ sizeLine := by
      rw [List.length_map, hpm.length_eq]
      rw [List.length_map] at hz'
      exact hz'
    have hv : Vals ((out.map adr).map V.ref) out := by
      have z := of_refs (out.map adr)
      rw [← h3] at z
      exact z
    refine ⟨.ref _, upd H (s.heap.objs.size + 1) (.lst ((out.map adr).map V.ref)), I.laid (t' := s.toks) (fun _ _ => PyProof.Rows.sortedAll_old) (Nat.le_succ _) ⟨hlen, out, ep, hv, he'⟩, rfl, q _ _ hpm ?_ (I.hok.fresh (Nat.le_succ _))⟩
    refine List.pairwise_map.mpr (hs'.imp fun {x y} h => ?_)
    have b := of_decide_eq_false (p := TS.code B (k (adr y)) < TS.code B (k (adr x))) h
    omega
end
theorem slAK {X : Cx} (K : PySem.W.Frag) (h : X.K = K := by rfl) : SlR X (rSlA K) := by subst h; exact sl_tupA
theorem catAK {X : Cx} (K : PySem.W.Frag) (h : X.K = K := by rfl) : OpR X (binaryOp .Add) (rCatA K) := by subst h; exact op_catA
theorem sortTK {X : Cx} (K : PySem.W.Frag) (h : X.K = K := by rfl) : CallR X (.builtin "sorted") (rSortedTC K) := by subst h; exact cr_sortedTC
/-- tuples of ints at these addresses -/
def TupsAt (H : Hp) (ts : List Addr) (ls : List (List Int)) : Prop := ts.map H = ls.map fun l => some (HO.tup (l.map V.int))
theorem TupsAt.len {H : Hp} {ts : List Addr} {ls : List (List Int)} (h : TupsAt H ts ls) : ts.length = ls.length := by
  have := congrArg List.length h
  simpa using this
theorem TupsAt.nil (H : Hp) : TupsAt H [] [] := rfl
theorem TupsAt.add {H : Hp} {ts us : List Addr} {ls ms : List (List Int)} (h : TupsAt H ts ls) (k : TupsAt H us ms) : TupsAt H (ts ++ us) (ls ++ ms) := by
  unfold TupsAt at *
  rw [List.map_append, List.map_append, h, k]
theorem TupsAt.one {H : Hp} {t : Addr} {l : List Int} (h : H t = some (.tup (l.map V.int))) : TupsAt H [t] [l] := by
  show [H t] = _
  rw [h]; rfl
theorem TupsAt.get {H : Hp} {ts : List Addr} {ls : List (List Int)} (h : TupsAt H ts ls) {i : Nat} {t : Addr} (e : ts[i]? = some t) : ∃ l, ls[i]? = some l ∧ H t = some (.tup (l.map V.int)) := by
  have z : (ts.map H)[i]? = (ls.map fun l => some (HO.tup (l.map V.int)))[i]? := congrArg (·[i]?) h
  rw [List.getElem?_map, e, List.getElem?_map] at z
  cases q : ls[i]? with
  | none => rw [q] at z; cases z
  | some l => rw [q] at z; exact ⟨l, rfl, Option.some.inj z⟩
theorem TupsAt.mem {H : Hp} {ts : List Addr} {ls : List (List Int)} (h : TupsAt H ts ls) {t : Addr} (m : t ∈ ts) : ∃ l, l ∈ ls ∧ H t = some (.tup (l.map V.int)) := by
  obtain ⟨i, hi, e⟩ := List.mem_iff_getElem.mp m
  obtain ⟨l, q, r⟩ := h.get (i := i) (t := t) (by rw [List.getElem?_eq_getElem hi, e])
  exact ⟨l, List.mem_of_getElem? q, r⟩
theorem TupsAt.to {H H' : Hp} {ts : List Addr} {ls : List (List Int)} (h : TupsAt H ts ls) (k : ∀ t l, H t = some (.tup l) → H' t = some (.tup l)) : TupsAt H' ts ls := by
  have e : ts.map H' = ts.map H := List.map_congr_left fun t m => by
    obtain ⟨l, _, q⟩ := h.mem m
    rw [q, k _ _ q]
  unfold TupsAt
  rw [e]; exact h
theorem TupsAt.same {H H' : Hp} {ts : List Addr} {ls : List (List Int)} (h : TupsAt H ts ls) (s : Same H H') : TupsAt H' ts ls := h.to fun t l e => s _ _ e
theorem TupsAt.set {H : Hp} {ts : List Addr} {ls : List (List Int)} {p : Addr} {xs : List V} {o : HO} (h : TupsAt H ts ls) (e : H p = some (.lst xs)) : TupsAt (upd H p o) ts ls := h.to fun t l q => by
  rw [upd_ne fun z => by rw [z, e] at q; cases q]; exact q
def toI : V → Int
  | .int i => i
  | _ => 0
theorem toI_ints (l : List Int) : (l.map V.int).map toI = l := by
  rw [List.map_map]; exact List.map_id l
/-- the ints of the tuple at t -/
def tk (H : Hp) (t : Addr) : List Int := match H t with
  | some (.tup xs) => xs.map toI
  | _ => []
theorem tk_of {H : Hp} {t : Addr} {l : List Int} (h : H t = some (.tup (l.map V.int))) : tk H t = l := by
  unfold tk
  rw [h]; exact toI_ints l
theorem TupsAt.keys {H : Hp} {ts : List Addr} {ls : List (List Int)} (h : TupsAt H ts ls) : ts.map (tk H) = ls := by
  refine List.ext_getElem? fun i => ?_
  rw [List.getElem?_map]
  cases e : ts[i]? with
  | none =>
    have := List.getElem?_eq_none_iff.mp e
    rw [h.len] at this
    rw [List.getElem?_eq_none this]; rfl
  | some t =>
    obtain ⟨l, q, r⟩ := h.get e
    rw [q]
    exact congrArg some (tk_of r)
theorem TupsAt.perm {H : Hp} {ts us : List Addr} {ls : List (List Int)} (h : TupsAt H ts ls) (p : us.Perm ts) : ∃ ms, TupsAt H us ms ∧ ms.Perm ls := by
  refine ⟨us.map (tk H), ?_, by rw [← h.keys]; exact p.map _⟩
  unfold TupsAt
  rw [List.map_map]
  refine List.map_congr_left fun t m => ?_
  obtain ⟨l, _, q⟩ := h.mem (p.mem_iff.mp m)
  show H t = some (HO.tup ((tk H t).map V.int))
  rw [tk_of q]; exact q
theorem TupsAt.tat {H : Hp} {ts : List Addr} {ls : List (List Int)} {d : Nat} {B : Int} (h : TupsAt H ts ls) (g : ∀ l ∈ ls, l.length = d ∧ TS.Bd B l) : TAt H d B (tk H) ts := fun t m => by
  obtain ⟨l, hl, q⟩ := h.mem m
  rw [tk_of q]
  exact ⟨q, g l hl⟩
theorem take_by {K : PySem.W.Frag} {H : Hp} {Q : VK} {t : Addr} {l : List Int} {k : Nat} (e : H t = some (.tup (l.map V.int))) (q : ∀ H' p, Same H H' → H' p = some (.tup ((l.take k).map V.int)) → Q (.ref p) H') : rSlA K (.ref t) none (some (k : Int)) H Q := by
  refine ⟨t, _, rfl, SqT.of e, fun c => ?_, fun c p np => ?_⟩
  · have hk := c.2
    rw [HT.sIx_nat, List.length_map] at hk
    refine q H t (Same.refl _) ?_
    rw [List.take_of_length_le (by omega)]; exact e
  · refine q _ p (same_new np) ?_
    rw [upd_same]
    unfold cutV
    rw [HT.sIx_none, HT.sIx_nat, List.drop_zero, Nat.sub_zero, ← List.map_take, List.length_map]
    by_cases z : k ≤ l.length
    · rw [Nat.min_eq_left z]
    · rw [Nat.min_eq_right (by omega), List.take_of_length_le (Nat.le_refl _), List.take_of_length_le (by omega)]
theorem drop_by {K : PySem.W.Frag} {H : Hp} {Q : VK} {t : Addr} {l : List Int} {k : Nat} (e : H t = some (.tup (l.map V.int))) (q : ∀ H' p, Same H H' → H' p = some (.tup ((l.drop k).map V.int)) → Q (.ref p) H') : rSlA K (.ref t) (some (k : Int)) none H Q := by
  refine ⟨t, _, rfl, SqT.of e, fun c => ?_, fun c p np => ?_⟩
  · have hk := c.1
    rw [HT.sIx_nat, List.length_map] at hk
    refine q H t (Same.refl _) ?_
    by_cases z : k = 0
    · rw [z, List.drop_zero]; exact e
    · have z2 : l.length = 0 := by omega
      have z3 : l = [] := List.length_eq_zero_iff.mp z2
      rw [z3] at e ⊢
      rw [List.drop_nil]; exact e
  · refine q _ p (same_new np) ?_
    rw [upd_same]
    unfold cutV
    rw [HT.sIx_none, HT.sIx_nat, List.length_map, ← List.map_drop, ← List.map_take]
    by_cases z : k ≤ l.length
    · rw [Nat.min_eq_left z, List.take_of_length_le (by rw [List.length_drop]; exact Nat.le_refl _)]
    · rw [Nat.min_eq_right (by omega), Nat.sub_self, List.take_zero, List.drop_of_length_le (by omega)]
theorem cat_by {K : PySem.W.Frag} {H : Hp} {Q : VK} {a b : Addr} {l m : List Int} (ea : H a = some (.tup (l.map V.int))) (eb : H b = some (.tup (m.map V.int))) (hz : l.length + m.length ≤ sizeLine) (q : ∀ H' p, Same H H' → H' p = some (.tup ((l ++ m).map V.int)) → Q (.ref p) H') : rCatA K (.ref a) (.ref b) H Q := by
  refine ⟨a, b, _, _, rfl, rfl, SqT.of ea, SqT.of eb, by rw [List.length_map, List.length_map]; exact hz, fun c => ?_, fun c d => ?_, fun c d p np => ?_⟩
  · have z : l = [] := List.map_eq_nil_iff.mp c
    refine q H b (Same.refl _) ?_
    rw [z, List.nil_append]; exact eb
  · have z : m = [] := List.map_eq_nil_iff.mp d
    refine q H a (Same.refl _) ?_
    rw [z, List.append_nil]; exact ea
  · refine q _ p (same_new np) ?_
    rw [upd_same, List.map_append]
theorem get_ref {ts : List Addr} {j : Nat} {x : V} (h : (ts.map V.ref)[j]? = some x) : ∃ t, ts[j]? = some t ∧ x = .ref t := by
  rw [List.getElem?_map] at h
  cases e : ts[j]? with
  | none => rw [e] at h; cases h
  | some t => rw [e] at h; exact ⟨t, rfl, (Option.some.inj h).symm⟩
def scOf : Expr → Scope
  | .Compare _ _ (.ListComp _ _ sc _ :: _) _ => sc
  | _ => defScope (.Pass ⟨0, 0, 0, 0⟩)
def scIf : List Stmt → Scope
  | [_, .If t _ _ _] => scOf t
  | _ => defScope (.Pass ⟨0, 0, 0, 0⟩)
/-- the scope of the comprehension with one within, in the law's second statement -/
def scOuter (s : Stmt) : Scope := match (defBody s).getD 1 (.Pass ⟨0, 0, 0, 0⟩) with
  | .For _ _ b _ _ => scIf b
  | _ => defScope (.Pass ⟨0, 0, 0, 0⟩)
theorem piLK {X : Cx} {tg l : Expr} {tl : TE} (K : PySem.W.Frag) (hl : PE X l tl) (h : X.K = K := by rfl) : PI X tg l (iList K tl) := by subst h; exact pi_list hl
end Up

set_option Elab.async false
set_option linter.all false
set_option maxRecDepth 100000
set_option maxHeartbeats 4000000
namespace K11
open PySem PySem.Spec PyProof.Rows L2 Up
abbrev pw : Program := PySem.Challenge.pw_upanddowns_k11_rows_of_the_triangle
def topS (i : Nat) : Stmt := PySem.Challenge.pw_upanddowns_k11_rows_of_the_triangle.main.body.getD i (.Pass ⟨0, 0, 0, 0⟩)
abbrev S_is_whole : Stmt := topS 15
abbrev N_is_whole : List Str := ["thing"]
theorem sc_is_whole : FnScope N_is_whole ["thing"] (defScope S_is_whole) := ⟨rfl, rfl, rfl, by decide +kernel, rfl, by decide +kernel, by decide +kernel⟩
abbrev S_need_number : Stmt := topS 16
abbrev N_need_number : List Str := ["thing", "least", "most"]
theorem sc_need_number : FnScope N_need_number ["thing", "least", "most"] (defScope S_need_number) := ⟨rfl, rfl, rfl, by decide +kernel, rfl, by decide +kernel, by decide +kernel⟩
abbrev S_row_behind : Stmt := topS 19
abbrev N_row_behind : List Str := ["ahead", "sums", "number"]
theorem sc_row_behind : FnScope N_row_behind ["ahead"] (defScope S_row_behind) := ⟨rfl, rfl, rfl, by decide +kernel, rfl, by decide +kernel, by decide +kernel⟩
abbrev S_rows_to : Stmt := topS 20
abbrev N_rows_to : List Str := ["n", "rows"]
theorem sc_rows_to : FnScope N_rows_to ["n"] (defScope S_rows_to) := ⟨rfl, rfl, rfl, by decide +kernel, rfl, by decide +kernel, by decide +kernel⟩
abbrev S_row : Stmt := topS 21
abbrev N_row : List Str := ["n"]
theorem sc_row : FnScope N_row ["n"] (defScope S_row) := ⟨rfl, rfl, rfl, by decide +kernel, rfl, by decide +kernel, by decide +kernel⟩
abbrev S_law_cell_at : Stmt := topS 23
abbrev N_law_cell_at : List Str := ["_law_script", "_law_k"]
theorem sc_law_cell_at : FnScope N_law_cell_at ["_law_script", "_law_k"] (defScope S_law_cell_at) := ⟨rfl, rfl, rfl, by decide +kernel, rfl, by decide +kernel, by decide +kernel⟩
abbrev S_law_draw : Stmt := topS 24
abbrev N_law_draw : List Str := ["_law_cell", "_law_k", "_law_bound", "_law_left", "_law_j", "_law_stir"]
theorem sc_law_draw : FnScope N_law_draw ["_law_cell", "_law_k", "_law_bound"] (defScope S_law_draw) := ⟨rfl, rfl, rfl, by decide +kernel, rfl, by decide +kernel, by decide +kernel⟩
abbrev S_law_turns_of : Stmt := topS 25
abbrev N_law_turns_of : List Str := ["_law_some", "_law_found", "_law_k"]
theorem sc_law_turns_of : FnScope N_law_turns_of ["_law_some"] (defScope S_law_turns_of) := ⟨rfl, rfl, rfl, by decide +kernel, rfl, by decide +kernel, by decide +kernel⟩
abbrev S_law_by_turns : Stmt := topS 26
abbrev N_law_by_turns : List Str := ["_law_size", "_law_first", "_law_found", "_law_k"]
theorem sc_law_by_turns : FnScope N_law_by_turns ["_law_size", "_law_first"] (defScope S_law_by_turns) := ⟨rfl, rfl, rfl, by decide +kernel, rfl, by decide +kernel, by decide +kernel⟩
abbrev S_law_orders : Stmt := topS 27
abbrev N_law_orders : List Str := ["_law_size", "_law_found", "_law_one", "_law_longer", "_law_some", "_law_k"]
theorem sc_law_orders : FnScope N_law_orders ["_law_size"] (defScope S_law_orders) := ⟨rfl, rfl, rfl, by decide +kernel, rfl, by decide +kernel, by decide +kernel⟩
abbrev S_law_rows : Stmt := topS 28
abbrev N_law_rows : List Str := ["_law_most", "_law_found", "_law_here", "_law_size", "_law_later", "_law_one"]
theorem sc_law_rows : FnScope N_law_rows ["_law_most"] (defScope S_law_rows) := ⟨rfl, rfl, rfl, by decide +kernel, rfl, by decide +kernel, by decide +kernel⟩
abbrev S_law_no_number : Stmt := topS 29
abbrev N_law_no_number : List Str := ["_law_cell", "_law_at", "_law_least", "_law_most", "_law_some"]
theorem sc_law_no_number : FnScope N_law_no_number ["_law_cell", "_law_at", "_law_least", "_law_most"] (defScope S_law_no_number) := ⟨rfl, rfl, rfl, by decide +kernel, rfl, by decide +kernel, by decide +kernel⟩
abbrev S_law_class : Stmt := topS 30
abbrev N_law_class : List Str := ["_law_error", "_law_kinds", "_law_words"]
theorem sc_law_class : FnScope N_law_class ["_law_error"] (defScope S_law_class) := ⟨rfl, rfl, rfl, by decide +kernel, rfl, by decide +kernel, by decide +kernel⟩
abbrev S_law_refused : Stmt := topS 31
abbrev N_law_refused : List Str := ["_law_call", "_law_word", "_law_error"]
theorem sc_law_refused : FnScope N_law_refused ["_law_call"] (defScope S_law_refused) := ⟨rfl, rfl, rfl, by decide +kernel, rfl, by decide +kernel, by decide +kernel⟩
abbrev S_law : Stmt := topS 32
abbrev N_law : List Str := ["_law_script", "_law_due", "_law_n", "_law_some", "_law_k", "_law_cell", "_law_turn", "_law_found", "_law_bad", "_law_one", "_law_first"]
theorem sc_law : FnScope N_law ["_law_script"] (defScope S_law) := ⟨rfl, rfl, rfl, by decide +kernel, rfl, by decide +kernel, by decide +kernel⟩
structure Txt (K : PySem.W.Frag) (mg : Str → Option Value) : Prop where
  d_is_whole : ∃ fd, FnT K "is_whole" S_is_whole fd
  g_is_whole : mg "is_whole" = some (.ref (He.ga K "is_whole"))
  d_need_number : ∃ fd, FnT K "need_number" S_need_number fd
  g_need_number : mg "need_number" = some (.ref (He.ga K "need_number"))
  d_row_behind : ∃ fd, FnT K "row_behind" S_row_behind fd
  g_row_behind : mg "row_behind" = some (.ref (He.ga K "row_behind"))
  d_rows_to : ∃ fd, FnT K "rows_to" S_rows_to fd
  g_rows_to : mg "rows_to" = some (.ref (He.ga K "rows_to"))
  d_row : ∃ fd, FnT K "row" S_row fd
  g_row : mg "row" = some (.ref (He.ga K "row"))
  d_law_cell_at : ∃ fd, FnT K "_law_cell_at" S_law_cell_at fd
  g_law_cell_at : mg "_law_cell_at" = some (.ref (He.ga K "_law_cell_at"))
  d_law_draw : ∃ fd, FnT K "_law_draw" S_law_draw fd
  g_law_draw : mg "_law_draw" = some (.ref (He.ga K "_law_draw"))
  d_law_turns_of : ∃ fd, FnT K "_law_turns_of" S_law_turns_of fd
  g_law_turns_of : mg "_law_turns_of" = some (.ref (He.ga K "_law_turns_of"))
  d_law_by_turns : ∃ fd, FnT K "_law_by_turns" S_law_by_turns fd
  g_law_by_turns : mg "_law_by_turns" = some (.ref (He.ga K "_law_by_turns"))
  d_law_orders : ∃ fd, FnT K "_law_orders" S_law_orders fd
  g_law_orders : mg "_law_orders" = some (.ref (He.ga K "_law_orders"))
  d_law_rows : ∃ fd, FnT K "_law_rows" S_law_rows fd
  g_law_rows : mg "_law_rows" = some (.ref (He.ga K "_law_rows"))
  d_law_no_number : ∃ fd, FnT K "_law_no_number" S_law_no_number fd
  g_law_no_number : mg "_law_no_number" = some (.ref (He.ga K "_law_no_number"))
  d_law_class : ∃ fd, FnT K "_law_class" S_law_class fd
  g_law_class : mg "_law_class" = some (.ref (He.ga K "_law_class"))
  d_law_refused : ∃ fd, FnT K "_law_refused" S_law_refused fd
  g_law_refused : mg "_law_refused" = some (.ref (He.ga K "_law_refused"))
  d_law : ∃ fd, FnT K "law" S_law fd
  g_law : mg "law" = some (.ref (He.ga K "law"))
  n_isinstance : mg "isinstance" = none
  n_int : mg "int" = none
  n_bool : mg "bool" = none
  n_len : mg "len" = none
  n_range : mg "range" = none
  n_str : mg "str" = none
  n_max : mg "max" = none
  n_min : mg "min" = none
  n_list : mg "list" = none
  n_sorted : mg "sorted" = none
  n_ValueError : mg "ValueError" = none
  c_MOST_ROWS : ∃ t, mg "MOST_ROWS" = some (.int 60 t)
  g_TurnError : mg "TurnError" = some (.ref (He.ga K "TurnError"))
  g_NoOrder : mg "NoOrder" = some (.ref (He.ga K "NoOrder"))
  g_NoNumber : mg "NoNumber" = some (.ref (He.ga K "NoNumber"))
  g_NoRow : mg "NoRow" = some (.ref (He.ga K "NoRow"))
  g_NotUpDown : mg "NotUpDown" = some (.ref (He.ga K "NotUpDown"))
  g_NoPattern : mg "NoPattern" = some (.ref (He.ga K "NoPattern"))
  g_NoTree : mg "NoTree" = some (.ref (He.ga K "NoTree"))
  g_NoLoose : mg "NoLoose" = some (.ref (He.ga K "NoLoose"))
  g_NoRing : mg "NoRing" = some (.ref (He.ga K "NoRing"))
  g_NoFraction : mg "NoFraction" = some (.ref (He.ga K "NoFraction"))
  g_NoText : mg "NoText" = some (.ref (He.ga K "NoText"))
  g_NoDeed : mg "NoDeed" = some (.ref (He.ga K "NoDeed"))
  g_NoLine : mg "NoLine" = some (.ref (He.ga K "NoLine"))
  x_NoNumber : PySem.W.excIn K (He.ga K "NoNumber") He.veBase "ValueError.__new__" = true
  k_NoNumber : PySem.W.keepIn K (.ref (He.ga K "NoNumber")) = true
  b_NoNumber : PySem.W.subIn K (.ref (He.ga K "NoNumber")) (.type "BaseException") = some true
  t_NoNumber : PySem.W.typeIn K (.ref (He.ga K "NoNumber")) = some (.type "type")
  j_NoNumber : ClassIs K (He.ga K "NoNumber") 1
section
variable {P : Program} {w : World} {K : PySem.W.Frag} {mg : Str → Option Value} {base : Heap}
theorem ok_is_whole (T : Txt K mg) : DefOk P w K mg base CX0 1 "is_whole" ["thing"] (spWhole K) := by
  refine def_of T.d_is_whole T.g_is_whole (fun _ _ _ _ _ _ us hl => match us, hl with | [_], _ => rfl) fun fd F => ?_
  refine F.ok sc_is_whole (fun vs H Q E h => ?_) (fun cdv A outer s H vs Q E hr h => ?_)
  · obtain ⟨x, b, rfl, _⟩ := h; rfl
  · obtain ⟨x, b, rfl, hT, q⟩ := h
    obtain ⟨ty, hty, hm, hb⟩ := hT.ex
    refine ⟨_, PSs.nox (pss_one (ps_ret (pe_and (pe_callB (isiK K) (by rfl) T.n_isinstance (by decide +kernel) (pa_cons (pv 0) (pa_cons (pe_bltn (v := .ty "int") (u := .type "int") (by rfl) T.n_int (by decide +kernel) rfl) pa_nil))) (pe_one (pe_not (pe_callB (isiK K) (by rfl) T.n_isinstance (by decide +kernel) (pa_cons (pv 0) (pa_cons (pe_bltn (v := .ty "bool") (u := .type "bool") (by rfl) T.n_bool (by decide +kernel) rfl) pa_nil)))))))), ?_⟩
    refine ⟨_, rfl, _, _, _, _, _, rfl, .ty "int", hty, kit_ty (kit_int ty hm), _, rfl, ite2 (fun c => ?_) (fun c => ?_)⟩
    · refine ⟨_, rfl, _, _, _, _, _, rfl, .ty "bool", hty, kit_ty (kit_bool ty hm), _, rfl, ?_⟩
      have e : (!(ty == "bool")) = b := by
        rw [← hb]; exact kit_whole ty hm c
      rw [e]; exact q
    · have e : (ty == "int" || ty == "bool") = false := by simpa using c
      have e2 : b = false := by rw [← hb]; rw [Bool.or_eq_false_iff] at e; exact e.1
      rw [e2] at q; exact q

theorem ok_need_number (T : Txt K mg) : DefOk P w K mg base (L2.CX P w) 2 "need_number" ["thing", "least", "most"] (spNeed K (He.ga K "NoNumber")) := by
  have D_is_whole : DefOk P w K mg base CX0 1 "is_whole" ["thing"] (spWhole K) := ok_is_whole T
  refine def_of T.d_need_number T.g_need_number (fun _ _ _ _ _ _ us hl => match us, hl with | [_, _, _], _ => rfl) fun fd F => ?_
  refine F.ok sc_need_number (fun vs H Q E h => ?_) (fun cdv A outer s H vs Q E hr h => ?_)
  · obtain ⟨x, a, b, z, rfl, _⟩ := h; rfl
  · obtain ⟨x, a, b, z, rfl, ha, hb, hT, kY, kN⟩ := h
    refine ⟨_, (pss_cons (ps_if (pt_not (pt_val (pe_callD D_is_whole hr (by rfl) pass0 (pa_cons (pv 0) pa_nil)))) (pss_one (ps_raise rfl (takes_of rfl rfl rfl rfl) (pmk_own PySem.F.excBase_ValueError T.x_NoNumber T.g_NoNumber T.k_NoNumber (raises_own T.b_NoNumber T.t_NoNumber) (by exact rfl)))) pss_nil)
 (pss_one (ps_if (PW.pt (pw_or (pt_cmpR op_lt (pv 0) (pv 1) (nomark _)) (pw_or1 (pt_cmpR op_gt (pv 0) (pv 2) (nomark _))))) (pss_one (ps_raise rfl (takes_of rfl rfl rfl rfl) (SkE.pmk_own1 PySem.F.excBase_ValueError T.x_NoNumber T.g_NoNumber T.k_NoNumber (raises_own T.b_NoNumber T.t_NoNumber) (by exact rfl) (pe_joined (PJ.cons pe_str (PJ.cons (pe_fmt (pv 1)) (PJ.cons pe_str (PJ.cons (pe_fmt (pv 2)) PJ.nil)))))))) pss_nil))), ?_⟩
    refine ⟨_, rfl, x, z, rfl, hT, z, rfl, ?_⟩
    cases z with
    | false =>
      refine iteT ?_
      refine kN fun ⟨i, e, _⟩ => hT.non rfl i e
    | true =>
      refine iteF ?_
      obtain ⟨i, rfl⟩ := hT.int rfl
      refine ⟨_, rfl, _, rfl, _, _, rfl, rfl, _, rfl, ?_⟩
      have bad : ¬ NumOk (.int i) a b → _ := kN
      refine ite2 (fun c => ?_) (fun c => ?_)
      · refine iteT ?_
        refine ⟨_, rfl, by decide +kernel, _, rfl, .inr ⟨a, rfl, ha.1, _, rfl, ha.2.1, _, rfl, ha.2.2, _, rfl, .inr ⟨b, rfl, hb.1, _, rfl, hb.2, bad fun ⟨j, e, h1, h2⟩ => ?_⟩⟩⟩
        cases e
        have := of_decide_eq_true c
        omega
      · refine ⟨_, rfl, _, rfl, _, _, rfl, rfl, _, rfl, ?_⟩
        refine ite2 (fun d => ?_) (fun d => ?_)
        · refine ⟨_, rfl, by decide +kernel, _, rfl, .inr ⟨a, rfl, ha.1, _, rfl, ha.2.1, _, rfl, ha.2.2, _, rfl, .inr ⟨b, rfl, hb.1, _, rfl, hb.2, bad fun ⟨j, e, h1, h2⟩ => ?_⟩⟩⟩
          cases e
          have := of_decide_eq_true d
          omega
        · exact kY ⟨i, rfl, by
            have := of_decide_eq_false (Bool.eq_false_iff.mpr c)
            omega, by
            have := of_decide_eq_false (Bool.eq_false_iff.mpr d)
            omega⟩

theorem ok_law_cell_at (T : Txt K mg) : DefOk P w K mg base CX0 1 "_law_cell_at" ["_law_script", "_law_k"] (spCellAt K) := by
  refine def_of T.d_law_cell_at T.g_law_cell_at (fun _ _ _ _ _ _ us hl => match us, hl with | [_, _], _ => rfl) fun fd F => ?_
  refine F.ok sc_law_cell_at (fun vs H Q E h => ?_) (fun cdv A outer s H vs Q E hr h => ?_)
  · obtain ⟨a, ns, i, rfl, _⟩ := h; rfl
  · obtain ⟨a, ns, i, rfl, hS, q⟩ := h
    refine ⟨_, PSs.nox (pss_cons (ps_if (pt_cmpR op_lt (pv 1) (pe_callB (lenK K) (by rfl) T.n_len boot_len (pa_cons (pv 0) pa_nil)) (nomark _)) (pss_one (ps_ret (pe_ix (ixLK K) (pv 0) (pv 1) (fun _ _ => rfl)))) pss_nil)
 (pss_one (ps_ret pe_int))), ?_⟩
    refine ⟨_, rfl, _, rfl, _, _, rfl, .inl hS, _, _, rfl, rfl, _, rfl, ite2 (fun c => ?_) (fun c => ?_)⟩
    · have c := of_decide_eq_true c
      rw [List.length_map] at c
      have hi : i < ns.length := by omega
      refine ⟨_, rfl, _, rfl, a, _, _, _, rfl, rfl, hS, atI_nat (j := i) (v := .int ns[i]) (by rw [List.getElem?_map, List.getElem?_eq_getElem hi]; rfl), q _⟩
    · exact q _

theorem ok_law_draw (T : Txt K mg) : DefOk P w K mg base CX0 1 "_law_draw" ["_law_cell", "_law_k", "_law_bound"] spDraw := by
  refine def_of T.d_law_draw T.g_law_draw (fun _ _ _ _ _ _ us hl => match us, hl with | [_, _, _], _ => rfl) fun fd F => ?_
  refine F.ok sc_law_draw (fun vs H Q E h => ?_) (fun cdv A outer s H vs Q E hr h => ?_)
  · obtain ⟨c, k, b, rfl, _⟩ := h; rfl
  · obtain ⟨c, k, b, rfl, k0, k1, b0, b1, q⟩ := h
    refine ⟨_, PSs.nox (pss_cons (ps_if (pt_cmpR op_ge (pv 0) (pe_op op_pow pe_int pe_int) (nomark _)) (pss_cons (ps_set (i := 3) sc_law_draw.nd rfl (Or.inl rfl) (pv 0))
 (pss_cons (ps_for PassesOwn.never rfl (pi_range1 (by rfl) T.n_range (pa_cons (pv 1) pa_nil)) (pg_name (i := 4) sc_law_draw.nd rfl (Or.inl rfl)) (pss_cons (ps_if (pt_cmpR op_eq (pv 3) pe_int (nomark _)) (pss_one (ps_ret pe_int)) pss_nil)
 (pss_one (ps_set (i := 3) sc_law_draw.nd rfl (Or.inl rfl) (pe_op op_fdiv (pv 3) (pv 2))))))
 (pss_one (ps_ret (pe_op op_mod (pv 3) (pv 2)))))) pss_nil)
 (pss_cons (ps_set (i := 5) sc_law_draw.nd rfl (Or.inl rfl) (pe_op op_mod (pe_op op_mul (pe_op op_add (pe_op op_add (pe_op op_mod (pv 0) pe_int) (pe_op op_mul pe_int (pv 1))) pe_int) pe_int) pe_int))
 (pss_cons (ps_set (i := 5) sc_law_draw.nd rfl (Or.inl rfl) (pe_op op_mod (pe_op op_add (pe_op op_add (pe_op op_mul (pv 5) (pv 5)) (pe_op op_mul pe_int (pv 1))) pe_int) pe_int))
 (pss_one (ps_ret (pe_op op_mod (pe_op op_fdiv (pe_op op_mod (pe_op op_mul (pv 5) pe_int) pe_int) pe_int) (pv 2))))))), ?_⟩
    have rng : ∀ z : Int, 0 ≤ z % b ∧ z % b < b := fun z => ⟨Int.emod_nonneg z (by omega), Int.emod_lt_of_pos z (by omega)⟩
    refine ⟨_, rfl, _, _, rfl, rfl, ⟨by decide, by decide, by decide⟩, _, _, rfl, rfl, _, rfl, ite2 (fun e => ?_) (fun e => ?_)⟩
    · refine ⟨_, rfl, _, rfl, k, rfl, by omega, by omega, for_range (lo := 0) (n := k.toNat) (fun i σ H' => ∃ l y z, σ = [some (.int c), some (.int k), some (.int b), some (.int l), y, z] ∧ H' = H) ⟨c, none, none, rfl, rfl⟩ ?_ ?_⟩
      · rintro i σ H' hi ⟨l, y, z, rfl, rfl⟩
        refine ⟨_, rfl, rfl, _, rfl, ite2 (fun e2 => ?_) (fun e2 => ?_)⟩
        · exact q 0 (by omega) b0
        · exact ⟨_, rfl, _, rfl, _, _, rfl, rfl, ⟨b0, b1⟩, _, _, _, rfl, rfl⟩
      · rintro σ H' ⟨l, y, z, rfl, rfl⟩
        exact ⟨_, rfl, _, rfl, _, _, rfl, rfl, b0, q _ (rng l).1 (rng l).2⟩
    · have m1 := Int.emod_nonneg c (show (1000000007 : Int) ≠ 0 by decide)
      have m2 := Int.emod_lt_of_pos c (show (0 : Int) < 1000000007 by decide)
      refine ⟨_, rfl, _, _, rfl, rfl, (by show (0 : Int) < 1000000007; decide), _, rfl, _, _, rfl, rfl, .inl ⟨by decide, by decide⟩, _, _, rfl, rfl, _, _, rfl, rfl, _, _, rfl, rfl, .inr ⟨by decide, by decide⟩, _, _, rfl, rfl, (by show (0 : Int) < 2147483647; decide), ?_⟩
      generalize hs : ((c % 1000000007 + 1009 * k + 17) * 69621) % 2147483647 = st
      have s1 : 0 ≤ st := by rw [← hs]; exact Int.emod_nonneg _ (by decide)
      have s2 : st < 2147483647 := by rw [← hs]; exact Int.emod_lt_of_pos _ (by decide)
      refine ⟨_, rfl, _, rfl, _, _, rfl, rfl, .inl ⟨by omega, by omega⟩, _, rfl, _, _, rfl, rfl, .inl ⟨by decide, by decide⟩, _, _, rfl, rfl, _, _, rfl, rfl, _, _, rfl, rfl, (by show (0 : Int) < 2147483629; decide), ?_⟩
      generalize (st * st + 40503 * k + 5) % 2147483629 = su
      refine ⟨_, rfl, _, _, rfl, rfl, .inr ⟨by decide, by decide⟩, _, _, rfl, rfl, (by show (0 : Int) < 2147483647; decide), _, _, rfl, rfl, ⟨by decide, by decide⟩, _, rfl, _, _, rfl, rfl, b0, q _ (rng _).1 (rng _).2⟩

theorem ok_law_no_number (T : Txt K mg) : DefOk P w K mg base CX0 2 "_law_no_number" ["_law_cell", "_law_at", "_law_least", "_law_most"] (spNoNumber K) := by
  have D_law_draw : DefOk P w K mg base CX0 1 "_law_draw" ["_law_cell", "_law_k", "_law_bound"] spDraw := ok_law_draw T
  refine def_of T.d_law_no_number T.g_law_no_number (fun _ _ _ _ _ _ us hl => match us, hl with | [_, _, _, _], _ => rfl) fun fd F => ?_
  refine F.ok sc_law_no_number (fun vs H Q E h => ?_) (fun cdv A outer s H vs Q E hr h => ?_)
  · obtain ⟨c, k, a, b, rfl, _⟩ := h; rfl
  · obtain ⟨c, k, a, b, rfl, k0, k1, a0, a1, b0, b1, q⟩ := h
    refine ⟨_, PSs.nox (pss_cons (ps_set (i := 4) sc_law_no_number.nd rfl (Or.inl rfl) (pe_lst (pa_cons (pe_op op_sub (pv 2) pe_int) (pa_cons (pe_op op_add (pv 3) pe_int) (pa_cons pe_bl (pa_cons pe_bl (pa_cons pe_non (pa_cons (pe_callTy call_str_int (by rfl) T.n_str (by decide +kernel) (pa_cons (pv 2) pa_nil)) (pa_cons (pe_tup (pa_cons (pv 2) pa_nil)) (pa_cons (pe_lst (pa_cons (pv 2) pa_nil)) (pa_cons pe_dnewK (pa_cons (pe_un un_neg (pe_op op_pow pe_int pe_int)) (pa_cons (pe_op op_pow pe_int pe_int) pa_nil)))))))))))))
 (pss_one (ps_ret (pe_ix (ixLK K) (pv 4) (pe_callD D_law_draw hr (by rfl) pass0 (pa_cons (pv 0) (pa_cons (pv 1) (pa_cons pe_int pa_nil)))) (fun _ _ => rfl))))), ?_⟩
    have la : a.natAbs.log2 < 1920 := by
      have : a.natAbs < 2 ^ 60 := by omega
      have z : a.natAbs.log2 < 60 := PySem.Flt.log2_lt_of (by decide) this
      omega
    refine ⟨_, rfl, _, _, rfl, rfl, _, rfl, _, _, rfl, rfl, _, rfl, _, rfl, la, _, rfl, sz 1, fun t nt => ?_⟩
    refine ⟨_, rfl, sz 1, fun l nl => ?_⟩
    intro d nd
    refine ⟨_, _, rfl, rfl, ⟨by decide, by decide, by decide⟩, _, rfl, _, _, rfl, rfl, ⟨by decide, by decide, by decide⟩, sz 11, fun p np => ?_⟩
    have s1 : Same H (upd H t (.tup [.int a])) := same_new nt
    have s2 : Same H (upd (upd H t (.tup [.int a])) l (.lst [.int a])) := s1.trans (same_new nl)
    have s3 := s2.trans (same_new (o := .dK []) nd)
    have s4 := s3.trans (same_new (o := .lst [.int (a - 1), .int (b + 1), .bl true, .bl false, .non, .str (toString a), .ref t, .ref l, .ref d, .int (-(10 ^ 30)), .int (10 ^ 40)]) np)
    refine ⟨_, rfl, _, rfl, _, rfl, c, k, 11, rfl, k0, k1, by decide, by decide, fun r r0 r1 => ?_⟩
    have nlt : t ≠ l := ne_of_none (upd_same (H := H) (a := t) (o := .tup [.int a])) nl
    have et : ∀ o : HO, (upd (upd (upd (upd H t (.tup [.int a])) l (.lst [.int a])) d (.dK [])) p o) t = some (.tup [.int a]) := fun _ => (same_new np) _ _ ((same_new nd) _ _ ((same_new nl) _ _ upd_same))
    have el : ∀ o : HO, (upd (upd (upd (upd H t (.tup [.int a])) l (.lst [.int a])) d (.dK [])) p o) l = some (.lst [.int a]) := fun _ => (same_new np) _ _ ((same_new nd) _ _ upd_same)
    have ed : ∀ o : HO, (upd (upd (upd (upd H t (.tup [.int a])) l (.lst [.int a])) d (.dK [])) p o) d = some (.dK []) := fun _ => (same_new np) _ _ upd_same
    obtain ⟨j, rfl⟩ : ∃ j : Nat, r = (j : Int) := ⟨r.toNat, by omega⟩
    have hj : j < 11 := by omega
    have fin : ∀ v z, ([.int (a - 1), .int (b + 1), .bl true, .bl false, .non, .str (toString a), .ref t, .ref l, .ref d, .int (-(10 ^ 30)), .int (10 ^ 40)] : List V)[j]? = some v → Thing K (upd (upd (upd (upd H t (.tup [.int a])) l (.lst [.int a])) d (.dK [])) p (.lst [.int (a - 1), .int (b + 1), .bl true, .bl false, .non, .str (toString a), .ref t, .ref l, .ref d, .int (-(10 ^ 30)), .int (10 ^ 40)])) v z → ¬ NumOk v a b →
        rIxL K (.ref p) (.int (j : Int)) (upd (upd (upd (upd H t (.tup [.int a])) l (.lst [.int a])) d (.dK [])) p (.lst [.int (a - 1), .int (b + 1), .bl true, .bl false, .non, .str (toString a), .ref t, .ref l, .ref d, .int (-(10 ^ 30)), .int (10 ^ 40)])) Q := fun v z e1 e2 e3 =>
      ⟨p, _, _, v, rfl, rfl, SqL.of upd_same, atI_nat e1, q v z _ s4 e2 e3⟩
    have off : ∀ i : Int, (i < a ∨ b < i) → ¬ NumOk (.int i) a b := fun i hi ⟨x, e, h1, h2⟩ => by
      cases e; omega
    match j, hj with
    | 0, _ => exact fin _ _ rfl (thing_int _) (off _ (by omega))
    | 1, _ => exact fin _ _ rfl (thing_int _) (off _ (by omega))
    | 2, _ => exact fin _ _ rfl (thing_bl _) (fun ⟨_, e, _⟩ => nomatch e)
    | 3, _ => exact fin _ _ rfl (thing_bl _) (fun ⟨_, e, _⟩ => nomatch e)
    | 4, _ => exact fin _ _ rfl thing_non (fun ⟨_, e, _⟩ => nomatch e)
    | 5, _ => exact fin _ _ rfl (thing_str _) (fun ⟨_, e, _⟩ => nomatch e)
    | 6, _ => exact fin _ _ rfl (thing_tup (et _)) (fun ⟨_, e, _⟩ => nomatch e)
    | 7, _ => exact fin _ _ rfl (thing_lst (el _)) (fun ⟨_, e, _⟩ => nomatch e)
    | 8, _ => exact fin _ _ rfl (thing_dic (ed _)) (fun ⟨_, e, _⟩ => nomatch e)
    | 9, _ => exact fin _ _ rfl (thing_int _) (off _ (by omega))
    | 10, _ => exact fin _ _ rfl (thing_int _) (off _ (by omega))

theorem ok_law_class (T : Txt K mg) : PinOkD P w K mg base 1 "_law_class" ["_law_error"] (spClass K) := by
  refine pindef_of T.d_law_class T.g_law_class (fun _ _ _ _ _ _ us hl => match us, hl with | [_], _ => rfl) fun fd F => ?_
  refine pin_of F sc_law_class (fun p vs H Q E h => ?_) (fun cdv A outer s H vs Q E p hr h => ?_)
  · obtain ⟨rfl, _⟩ := h; rfl
  · obtain ⟨rfl, C, j, wd, hz, hf, hC, hw, q⟩ := h
    refine ⟨_, (pss_cons (ps_if (PW.pt (pw_or (pt_not (pt_val (pe_callB (call_isPin hC.exc hz hf (List.mem_singleton.mpr rfl)) (by rfl) T.n_isinstance (by decide +kernel) (pa_cons (pv 0) (pa_cons (pe_glob (v := .ref (He.ga K "TurnError")) rfl T.g_TurnError rfl) pa_nil))))) (pw_or1 (pt_not (pt_val (pe_callB (call_isPin hC.exc hz hf (List.mem_singleton.mpr rfl)) (by rfl) T.n_isinstance (by decide +kernel) (pa_cons (pv 0) (pa_cons (pe_bltn (v := .ty "ValueError") (u := .type "ValueError") (by rfl) T.n_ValueError (by decide +kernel) rfl) pa_nil)))))))) (pss_one (ps_ret pe_str)) pss_nil)
 (pss_cons (ps_set (i := 1) sc_law_class.nd rfl (Or.inl rfl) (pe_lst (pa_cons (pe_callB (call_isPin hC.exc hz hf (List.mem_singleton.mpr rfl)) (by rfl) T.n_isinstance (by decide +kernel) (pa_cons (pv 0) (pa_cons (pe_glob (v := .ref (He.ga K "NoOrder")) rfl T.g_NoOrder rfl) pa_nil))) (pa_cons (pe_callB (call_isPin hC.exc hz hf (List.mem_singleton.mpr rfl)) (by rfl) T.n_isinstance (by decide +kernel) (pa_cons (pv 0) (pa_cons (pe_glob (v := .ref (He.ga K "NoNumber")) rfl T.g_NoNumber rfl) pa_nil))) (pa_cons (pe_callB (call_isPin hC.exc hz hf (List.mem_singleton.mpr rfl)) (by rfl) T.n_isinstance (by decide +kernel) (pa_cons (pv 0) (pa_cons (pe_glob (v := .ref (He.ga K "NoRow")) rfl T.g_NoRow rfl) pa_nil))) pa_nil)))))
 (pss_cons (ps_set (i := 1) sc_law_class.nd rfl (Or.inl rfl) (pe_op op_cat (pv 1) (pe_lst (pa_cons (pe_callB (call_isPin hC.exc hz hf (List.mem_singleton.mpr rfl)) (by rfl) T.n_isinstance (by decide +kernel) (pa_cons (pv 0) (pa_cons (pe_glob (v := .ref (He.ga K "NotUpDown")) rfl T.g_NotUpDown rfl) pa_nil))) (pa_cons (pe_callB (call_isPin hC.exc hz hf (List.mem_singleton.mpr rfl)) (by rfl) T.n_isinstance (by decide +kernel) (pa_cons (pv 0) (pa_cons (pe_glob (v := .ref (He.ga K "NoPattern")) rfl T.g_NoPattern rfl) pa_nil))) (pa_cons (pe_callB (call_isPin hC.exc hz hf (List.mem_singleton.mpr rfl)) (by rfl) T.n_isinstance (by decide +kernel) (pa_cons (pv 0) (pa_cons (pe_glob (v := .ref (He.ga K "NoTree")) rfl T.g_NoTree rfl) pa_nil))) pa_nil))))))
 (pss_cons (ps_set (i := 1) sc_law_class.nd rfl (Or.inl rfl) (pe_op op_cat (pv 1) (pe_lst (pa_cons (pe_callB (call_isPin hC.exc hz hf (List.mem_singleton.mpr rfl)) (by rfl) T.n_isinstance (by decide +kernel) (pa_cons (pv 0) (pa_cons (pe_glob (v := .ref (He.ga K "NoRing")) rfl T.g_NoRing rfl) pa_nil))) (pa_cons (pe_callB (call_isPin hC.exc hz hf (List.mem_singleton.mpr rfl)) (by rfl) T.n_isinstance (by decide +kernel) (pa_cons (pv 0) (pa_cons (pe_glob (v := .ref (He.ga K "NoText")) rfl T.g_NoText rfl) pa_nil))) (pa_cons (pe_callB (call_isPin hC.exc hz hf (List.mem_singleton.mpr rfl)) (by rfl) T.n_isinstance (by decide +kernel) (pa_cons (pv 0) (pa_cons (pe_glob (v := .ref (He.ga K "NoDeed")) rfl T.g_NoDeed rfl) pa_nil))) pa_nil))))))
 (pss_cons (ps_set (i := 1) sc_law_class.nd rfl (Or.inl rfl) (pe_op op_cat (pv 1) (pe_lst (pa_cons (pe_callB (call_isPin hC.exc hz hf (List.mem_singleton.mpr rfl)) (by rfl) T.n_isinstance (by decide +kernel) (pa_cons (pv 0) (pa_cons (pe_glob (v := .ref (He.ga K "NoLine")) rfl T.g_NoLine rfl) pa_nil))) (pa_cons (pe_callB (call_isPin hC.exc hz hf (List.mem_singleton.mpr rfl)) (by rfl) T.n_isinstance (by decide +kernel) (pa_cons (pv 0) (pa_cons (pe_glob (v := .ref (He.ga K "NoLoose")) rfl T.g_NoLoose rfl) pa_nil))) (pa_cons (pe_callB (call_isPin hC.exc hz hf (List.mem_singleton.mpr rfl)) (by rfl) T.n_isinstance (by decide +kernel) (pa_cons (pv 0) (pa_cons (pe_glob (v := .ref (He.ga K "NoFraction")) rfl T.g_NoFraction rfl) pa_nil))) pa_nil))))))
 (pss_cons (ps_if (pt_cmpR op_ne (pe_bm PySem.F.plainAttrs_list PySem.F.slot_list_count PySem.F.type_list_count mt_countF (pv 1) (pa_cons pe_bl pa_nil)) pe_int (nomark _)) (pss_one (ps_ret pe_str)) pss_nil)
 (pss_cons (ps_set (i := 2) sc_law_class.nd rfl (Or.inl rfl) (pe_lst (pa_cons pe_str (pa_cons pe_str (pa_cons pe_str (pa_cons pe_str (pa_cons pe_str (pa_cons pe_str (pa_cons pe_str (pa_cons pe_str (pa_cons pe_str pa_nil)))))))))))
 (pss_one (ps_ret (pe_ix (ixLK K) (pe_op op_cat (pv 2) (pe_lst (pa_cons pe_str (pa_cons pe_str (pa_cons pe_str pa_nil))))) (pe_bm PySem.F.plainAttrs_list PySem.F.slot_list_index PySem.F.type_list_index mt_index (pv 1) (pa_cons pe_bl pa_nil)) (fun _ _ => rfl))))))))))), ?_⟩
    refine ⟨_, rfl, _, _, _, rfl, fun _ r => r, hC.turn, _, rfl, iteF ?_⟩
    refine ⟨_, rfl, _, _, _, rfl, fun _ r => r, hC.val, _, rfl, iteF ?_⟩
    refine ⟨_, rfl, _, _, _, rfl, fun _ r => r, hC.each 0 _ rfl, _, rfl, _, _, _, rfl, fun _ r => r, hC.each 1 _ rfl, _, rfl, _, _, _, rfl, fun _ r => r, hC.each 2 _ rfl, sz 3, fun a0 n0 => ?_⟩
    refine ⟨_, rfl, _, rfl, _, _, _, rfl, fun _ r => r, hC.each 3 _ rfl, _, rfl, _, _, _, rfl, fun _ r => r, hC.each 4 _ rfl, _, rfl, _, _, _, rfl, fun _ r => r, hC.each 5 _ rfl, sz 3, fun a1 n1 => ?_⟩
    refine ⟨_, _, _, _, rfl, rfl, (same_new n1) _ _ upd_same, upd_same, sz 6, fun b1 m1 => ?_⟩
    refine ⟨_, rfl, _, rfl, _, _, _, rfl, fun _ r => r, hC.each 6 _ rfl, _, rfl, _, _, _, rfl, fun _ r => r, hC.each 7 _ rfl, _, rfl, _, _, _, rfl, fun _ r => r, hC.each 8 _ rfl, sz 3, fun a2 n2 => ?_⟩
    refine ⟨_, _, _, _, rfl, rfl, (same_new n2) _ _ upd_same, upd_same, sz 9, fun b2 m2 => ?_⟩
    refine ⟨_, rfl, _, rfl, _, _, _, rfl, fun _ r => r, hC.each 9 _ rfl, _, rfl, _, _, _, rfl, fun _ r => r, hC.each 10 _ rfl, _, rfl, _, _, _, rfl, fun _ r => r, hC.each 11 _ rfl, sz 3, fun a3 n3 => ?_⟩
    refine ⟨_, _, _, _, rfl, rfl, (same_new n3) _ _ upd_same, upd_same, sz 12, fun b3 m3 => ?_⟩
    have sA := ((((((same_new (o := .lst _) n0).trans (same_new (o := .lst _) n1)).trans (same_new (o := .lst _) m1)).trans (same_new (o := .lst _) n2)).trans (same_new (o := .lst _) m2)).trans (same_new (o := .lst _) n3)).trans (same_new (o := .lst (kindsAt j)) m3)
    refine ⟨_, rfl, .inl ⟨rfl, _, SqL.of upd_same⟩, b3, kindsAt j, .bl true, rfl, rfl, SqL.of upd_same, rfl, kinds_flat j, rfl, _, rfl, ?_⟩
    rw [kinds_count j hC.lt]
    refine iteF ?_
    refine ⟨sz 9, fun w1 o1 => ?_⟩
    have sB := sA.trans (same_new (o := .lst (words.map V.str)) o1)
    refine ⟨_, rfl, sz 3, fun w2 o2 => ?_⟩
    have sC := sB.trans (same_new (o := .lst (words2.map V.str)) o2)
    refine ⟨w1, w2, words.map V.str, words2.map V.str, rfl, rfl, (same_new o2) _ _ upd_same, upd_same, sz 12, fun w3 o3 => ?_⟩
    have sD := sC.trans (same_new (o := .lst (words.map V.str ++ words2.map V.str)) o3)
    have eb : (upd (upd (upd _ w1 (.lst (words.map V.str))) w2 (.lst (words2.map V.str))) w3 (.lst (words.map V.str ++ words2.map V.str))) b3 = some (.lst (kindsAt j)) := (same_new o3) _ _ ((same_new o2) _ _ ((same_new o1) _ _ upd_same))
    refine ⟨_, rfl, .inl ⟨rfl, _, SqL.of eb⟩, b3, kindsAt j, .bl true, j, .bl true, rfl, rfl, SqL.of eb, rfl, kinds_flat j, kinds_here j hC.lt, rfl, fun m z hm hm2 => ?_, ?_⟩
    · rw [kinds_ahead j hC.lt m hm] at hm2
      cases hm2
      rfl
    · refine ⟨w3, _, _, .str wd, rfl, rfl, SqL.of upd_same, atI_nat ?_, q _ sD⟩
      rw [← List.map_append, List.getElem?_map, hw]
      rfl

theorem ref_gives {X : Cx} {k : Nat} {gg : Addr} {cdg : Value} {qq : Str} (hr : Room (k + 2) X.A) (D : PinOkD X.prog X.w X.K X.mg X.base 1 "_law_class" ["_law_error"] (spClass X.K)) (hk : 1 ≤ k + 1) (gT : X.mg "TurnError" = some (.ref (He.ga X.K "TurnError"))) :
    LamX.GivesTo X N_law_refused "_law_refused" (defScope S_law_refused) gg cdg (defBody S_law_refused) "_law_call" qq (TRef X.K) := by
  intro f c' s H Q tl act hc h
  refine ⟨_, pss_cons (ps_set (i := 1) sc_law_refused.nd rfl (Or.inl rfl) pe_str) (pss_cons (ps_try_as (X := (cxOf C8.CX0 X.prog X.w X.K X.mg X.base N_law_refused "_law_refused" (defScope S_law_refused) gg cdg X.A X.stack s H C8.E0).nox) (i := 2) (c := .ref (He.ga X.K "TurnError"))
      (tb := fun W D σ H => ∃ E : XK, (∀ cls d σ' H', E cls d H' → σ'.length = 3 → W cls d σ' H') ∧ σ[0]? = some (some (.ref f)) ∧ H c' = some (LamX.CodeO c' qq) ∧ tl E H (fun _ H' => D.nx σ H'))
      (ts := fun a cls d => tAsg (tExc X.K 2 a cls d) (gName 1)) (Wout := fun _ _ _ _ => False) rfl rfl sc_law_refused.nd rfl rfl ⟨by rfl, by decide, .inl gT⟩ takes0 (fun W pn xe tk _ => ?_) (fun a oe cls d pn hz hf => ?_)) (pss_one (ps_ret (pv 1)))), ?_⟩
  · refine ⟨fun pins s' σ H' D I h' => ?_⟩
    obtain ⟨E, hE, h1, h2, h3⟩ := h'
    exact (pss_one (ps_expr (act (fun cls d σ H => σ.length = 3 → W cls d σ H) pn xe E _ _ (takes_len tk) hE))).run pins s' σ H' D I ⟨h1, h2, h3⟩
  · refine pss_one (ps_set (i := 1) sc_law_refused.nd rfl (Or.inl rfl) ?_)
    refine ⟨fun pins s' σ H' Q I h' => ?_⟩
    obtain ⟨e1, e2, C, j, wd, e3, hC, hw, hq⟩ := h'
    subst e2 e3
    exact (pe_callP (X := (cxOf C8.CX0 X.prog X.w X.K X.mg X.base N_law_refused "_law_refused" (defScope S_law_refused) gg cdg X.A X.stack s H C8.E0).nox.suite a ((a, oe) :: pn)) (sp := spClass X.K) (E := E0) (q := (a, oe)) D (roomH_mark ((hr.deeper _).mono hk)) List.mem_cons_self (by rfl) (pa_cons (pv 2) pa_nil)).run pins s' σ H' Q I ⟨_, e1, rfl, C, j, wd, hz, hf, hC, hw, hq⟩
  · refine ⟨fun cls d H' => d = none ∧ ∃ C j wd, cls = .ref C ∧ ClassIs X.K C j ∧ (words ++ words2)[j]? = some wd ∧ ∀ H'', Same H' H'' → Q (.str wd) H'', ?_, rfl, hc, ?_⟩
    · rintro cls d σ' H' ⟨e2, C, j, wd, e3, hC, hw, hq⟩ hl
      match σ', hl with
      | [x, y, z], _ =>
        subst e3
        exact ⟨true, hC.caught, fun _ a na => ⟨rfl, e2, C, j, wd, rfl, hC, hw, fun H'' sm => ⟨_, rfl, hq H'' sm⟩⟩, fun z => nomatch z⟩
    · exact h

theorem pe_refused {X : Cx} {k : Nat} {c Pt : Addr} {t : XK → TE} {params : Arguments} {body : Expr} {scope : Scope} {p lpos pos : Pos} (d : ∃ fd, FnT X.K "_law_refused" S_law_refused fd) (g : X.mg "_law_refused" = some (.ref (He.ga X.K "_law_refused"))) (D : PinOkD X.prog X.w X.K X.mg X.base 1 "_law_class" ["_law_error"] (spClass X.K))
    (gT : X.mg "TurnError" = some (.ref (He.ga X.K "TurnError"))) (TB : LamX.TabB X.base X.mg c Pt) (hr : Room (k + 2) X.A) (hcode : X.env.code = .ref c)
    (hbody : ∀ (A : Around) (outer : List Env) (s : Shared) (H : Hp) (E : XK) (f c' : Addr), Room k (A.deeper (LamX.lamEnv X scope s.heap.objs.size f c')) → PE (LamX.lamCx X A outer s H E scope f c') body (t E))
    (hg : Gl X "_law_refused" := by rfl) (L : LamX.LamS X.env.scope scope := by exact LamX.lamS_by (by decide +kernel)) (hdef : defaultsOf params X.env = ([], []) := by rfl)
    (hbind : ∀ (q : Str) (cl : List (Str × Addr)) (pm cv ctv : Value), bindArgs (PySem.W.kla_fn "<lambda>" q params body scope cl pm cv ctv) ⟨[], []⟩ = pure [] := by exact fun _ _ _ _ _ => rfl) :
    PE X (.Call (.Name "_law_refused" p) [.Lambda params body scope lpos] [] pos) (LamX.tLam [(Pt, X.env.qual ++ "<lambda>")] (TRef X.K) t) := by
  obtain ⟨fd, F⟩ := d
  have hb := F.bindsN (ps := ["_law_call"]) (fun _ _ _ _ _ _ us hl => match us, hl with | [_], _ => rfl)
  obtain ⟨oc, od, dV, kV, doc, pm, an, cdv, ct, osl, rfl, lk, hcd, _, _⟩ := F.ex
  exact LamX.pe_lamcall hg g F.kp lk hcd hb sc_law_refused rfl (Or.inl rfl) (ref_gives hr D (Nat.le_add_left 1 k) gT) TB hcode List.mem_cons_self (fun p hp _ => by rw [List.mem_singleton.mp hp]) hr L hdef hbind hbody


/-! ### the triangle -/
def spRowBehind (K : PySem.W.Frag) : Sp := fun vs H Q _ => ∃ (a : Addr) (ns : List Int), vs = [.ref a] ∧ SqL K H a (ns.map V.int) ∧ ns.length ≤ 100 ∧ ∀ H' p, Same H H' → H p = none → H' p = some (.lst ((nextRow ns).map V.int)) → Q (.ref p) H'
/-- rows, each an object of its own, new -/
structure Rows (H H' : Hp) (qs : List Addr) (n : Nat) : Prop where
  len : qs.length = n
  nd : qs.Nodup
  row : ∀ i q, qs[i]? = some q → H q = none ∧ H' q = some (.lst ((rowN i).map V.int))
def spRowsTo (K : PySem.W.Frag) (C : Addr) : Sp := fun vs H Q E => ∃ x z, vs = [x] ∧ Thing K H x z ∧ (¬ NumOk x 1 60 → E (.ref C) none H) ∧
  ∀ n : Nat, x = .int (n : Int) → 1 ≤ n → n ≤ 60 → ∀ H' p qs, Same H H' → H p = none → H' p = some (.lst (qs.map V.ref)) → p ∉ qs → Rows H H' qs n → Q (.ref p) H'
def spRow (K : PySem.W.Frag) (C : Addr) : Sp := fun vs H Q E => ∃ x z, vs = [x] ∧ Thing K H x z ∧ (¬ NumOk x 1 60 → E (.ref C) none H) ∧
  ∀ n : Nat, x = .int ((n + 1 : Nat) : Int) → n < 60 → ∀ H' p, Same H H' → H p = none → H' p = some (.lst ((rowN n).map V.int)) → Q (.ref p) H'
theorem short_one : Short 1 := by
  refine ⟨by decide +kernel, by decide +kernel, by decide +kernel⟩
theorem short_sixty : ((60 : Int).natAbs.log2 < 1920 ∧ (Str.empty ++ ("the number is not from " : Str) ++ (toString (1 : Int) : Str) ++ (" to " : Str) ++ (toString (60 : Int) : Str)).length ≤ sizeLine) := by
  refine ⟨by decide +kernel, by decide +kernel⟩
theorem last_ints {l : List Int} {z : Int} {xs : List Int} (e : xs = l ++ [z]) : atI (xs.map V.int) (-1) = some (.int z) := by
  rw [e, List.map_append]; exact atI_last _ _
theorem get_ints {ns : List Int} {i : Nat} {x : V} (h : (ns.map V.int)[i]? = some x) : ∃ z, ns[i]? = some z ∧ x = .int z := by
  rw [List.getElem?_map] at h
  cases e : ns[i]? with
  | none => rw [e] at h; cases h
  | some z => rw [e] at h; exact ⟨z, rfl, (Option.some.inj h).symm⟩
theorem sum_more {ns : List Int} {i : Nat} {z : Int} (h : ns[i]? = some z) : (sumsTo ns i ++ [(ns.take i).sum + z]) = sumsTo ns (i + 1) := by
  rw [sumsTo_succ, sum_take h]
theorem refs_last {qs : List Addr} {m : Nat} (h : qs.length = m + 1) : (qs.map V.ref) = (qs.dropLast.map V.ref) ++ [.ref (qs[m]'(by omega))] := by
  have e1 : qs ≠ [] := fun z => by rw [z] at h; cases h
  have e2 := List.dropLast_concat_getLast e1
  have e3 : qs.getLast e1 = qs[m]'(by omega) := by
    rw [List.getLast_eq_getElem]
    congr 1
    rw [h]; rfl
  rw [e3] at e2
  rw [← List.map_singleton, ← List.map_append, e2]
theorem ok_row_behind (T : Txt K mg) : DefOk P w K mg base CX0 1 "row_behind" ["ahead"] (spRowBehind K) := by
  refine def_of T.d_row_behind T.g_row_behind (fun _ _ _ _ _ _ us hl => match us, hl with | [_], _ => rfl) fun fd F => ?_
  refine F.ok sc_row_behind (fun vs H Q E h => ?_) (fun cdv A outer s H vs Q E hr h => ?_)
  · obtain ⟨a, ns, rfl, _⟩ := h; rfl
  · obtain ⟨a, ns, rfl, hS, hl, q⟩ := h
    refine ⟨_, PSs.nox (pss_cons (ps_set (i := 1) sc_row_behind.nd rfl (Or.inl rfl) (pe_lst (pa_cons pe_int pa_nil)))
 (pss_cons (ps_for PassesOwn.never rfl (pi_list (pv 0)) (pg_name (i := 2) sc_row_behind.nd rfl (Or.inl rfl)) (pss_one (ps_expr (pe_bm PySem.F.plainAttrs_list PySem.F.slot_list_append PySem.F.type_list_append mt_append (pv 1) (pa_cons (pe_op op_add (pe_ix (ixLK K) (pv 1) (pe_un un_neg pe_int) (fun _ _ => rfl)) (pv 2)) pa_nil)))))
 (pss_one (ps_ret (revLK K (pv 1)))))), ?_⟩
    refine ⟨sz 1, fun l nl => ?_⟩
    refine ⟨_, rfl, a, rfl, ⟨_, (same_new nl).seq hS⟩, for_list (xs := ns.map V.int) (fun i σ H' => ∃ y, σ = [some (.ref a), some (.ref l), y] ∧ Same H H' ∧ H' l = some (.lst ((sumsTo ns i).map V.int))) ⟨none, rfl, same_new nl, upd_same⟩ (fun i σ H' _ ⟨_, _, s5, _⟩ => s5.seq hS) ?_ ?_⟩
    · rintro i x σ H' hi ⟨y, rfl, s5, el⟩
      obtain ⟨z, hz, rfl⟩ := get_ints hi
      have hin : i < ns.length := (List.getElem?_eq_some_iff.mp hz).1
      obtain ⟨l0, e0⟩ := sumsTo_last ns i
      refine ⟨_, rfl, .inl ⟨rfl, _, SqL.of el⟩, _, rfl, _, rfl, l, _, _, _, rfl, rfl, SqL.of el, last_ints e0, _, rfl, _, _, rfl, rfl, l, _, _, rfl, rfl, el, ?_, ?_⟩
      · rw [List.length_map, sumsTo_len]; exact Nat.lt_of_le_of_lt (show i + 1 ≤ 1000 by omega) (by decide)
      · refine ⟨_, rfl, same_set s5 nl, ?_⟩
        rw [upd_same, ← sum_more hz, List.map_append]; rfl
    · rintro σ H' ⟨y, rfl, s5, el⟩
      refine ⟨_, rfl, l, _, rfl, SqL.of el, fun p np => q _ p (s5.trans (same_new np)) (s5.free np) ?_⟩
      rw [upd_same, ← List.map_reverse, List.length_map]; rfl

theorem ok_rows_to (T : Txt K mg) : DefOk P w K mg base (L2.CX P w) 3 "rows_to" ["n"] (spRowsTo K (He.ga K "NoNumber")) := by
  have D_need_number : DefOk P w K mg base (L2.CX P w) 2 "need_number" ["thing", "least", "most"] (spNeed K (He.ga K "NoNumber")) := ok_need_number T
  have D_row_behind : DefOk P w K mg base CX0 1 "row_behind" ["ahead"] (spRowBehind K) := ok_row_behind T
  refine def_of T.d_rows_to T.g_rows_to (fun _ _ _ _ _ _ us hl => match us, hl with | [_], _ => rfl) fun fd F => ?_
  refine F.ok sc_rows_to (fun vs H Q E h => ?_) (fun cdv A outer s H vs Q E hr h => ?_)
  · obtain ⟨x, z, rfl, _⟩ := h; rfl
  · obtain ⟨x, z, rfl, hT, kN, kY⟩ := h
    refine ⟨_, (pss_cons (ps_expr (pe_callD (E := E) D_need_number hr (by rfl) (passOut (takes_of rfl rfl rfl rfl)) (pa_cons (pv 0) (pa_cons pe_int (pa_cons (pe_glob (v := .int 60) rfl T.c_MOST_ROWS.choose_spec ⟨_, rfl⟩) pa_nil)))))
 (pss_cons (ps_set (i := 1) sc_rows_to.nd rfl (Or.inl rfl) (pe_lst (pa_cons (pe_lst (pa_cons pe_int pa_nil)) pa_nil)))
 (pss_cons (ps_while (passes_of rfl) (pt_cmpR op_lt (pe_callB (lenK K) (by rfl) T.n_len boot_len (pa_cons (pv 1) pa_nil)) (pv 0) (nomark _)) (pss_one (ps_expr (pe_bm PySem.F.plainAttrs_list PySem.F.slot_list_append PySem.F.type_list_append mt_append (pv 1) (pa_cons (pe_callD D_row_behind hr (by rfl) pass0 (pa_cons (pe_ix (ixLK K) (pv 1) (pe_un un_neg pe_int) (fun _ _ => rfl)) pa_nil)) pa_nil)))))
 (pss_one (ps_ret (pv 1)))))), ?_⟩
    refine ⟨_, rfl, x, 1, 60, z, rfl, short_one, short_sixty, hT, fun ok => ?_, kN⟩
    obtain ⟨i, rfl, h1, h2⟩ := ok
    obtain ⟨n, rfl⟩ : ∃ n : Nat, i = (n : Int) := ⟨i.toNat, by omega⟩
    refine ⟨sz 1, fun r nr => ?_⟩
    refine ⟨sz 1, fun p np => ?_⟩
    have npr : p ≠ r := fun e => by rw [e, upd_same] at np; cases np
    have fp : H p = none := (same_new nr).free np
    refine while_by (fun σ H' => ∃ k qs, σ = [some (.int (n : Int)), some (.ref p)] ∧ Same H H' ∧ H' p = some (.lst (qs.map V.ref)) ∧ p ∉ qs ∧ Rows H H' qs (k + 1) ∧ k + 1 ≤ n)
      (fun σ H' => match H' p with | some (.lst xs) => n - xs.length | _ => 0) ⟨0, [r], rfl, (same_new nr).trans (same_new np), upd_same, by simpa using npr, ⟨rfl, by simp, ?_⟩, by omega⟩ ?_ ?_
    · intro i q hq
      match i, hq with
      | 0, hq =>
        cases hq
        exact ⟨nr, by rw [upd_ne npr.symm]; exact upd_same⟩
    · rintro σ H' ⟨k, qs, rfl, sm, ep, npq, R, hk⟩
      refine ⟨_, rfl, p, _, rfl, .inl (SqL.of ep), _, rfl, _, _, rfl, rfl, _, rfl, ite2 (fun c => ?_) (fun c => ?_)⟩
      · have c := of_decide_eq_true c
        rw [List.length_map, R.len] at c
        have hq : k < qs.length := by rw [R.len]; omega
        have hqk := R.row k _ (List.getElem?_eq_getElem hq)
        have eL : (qs.map V.ref) = (qs.dropLast.map V.ref) ++ [.ref qs[k]] := by
          have e1 : qs ≠ [] := fun z => by rw [z] at hq; exact absurd hq (Nat.not_lt_zero _)
          have e2 := List.dropLast_concat_getLast e1
          have e3 : qs.getLast e1 = qs[k] := by
            rw [List.getLast_eq_getElem]
            congr 1
            rw [R.len]; rfl
          rw [e3] at e2
          rw [← List.map_singleton, ← List.map_append, e2]
        refine ⟨_, rfl, .inl ⟨rfl, _, SqL.of ep⟩, _, rfl, _, rfl, p, _, _, .ref qs[k], rfl, rfl, SqL.of ep, by rw [eL]; exact atI_last _ _, qs[k], rowN k, rfl, SqL.of hqk.2, by rw [rowN_len]; omega, fun H2 q s2 nq eq => ?_⟩
        refine ⟨p, qs.map V.ref, .ref q, rfl, rfl, s2 _ _ ep, by rw [List.length_map, R.len]; exact Nat.lt_of_le_of_lt (show k + 1 ≤ 1000 by omega) (by decide), ?_⟩
        have qp : q ≠ p := fun e => by rw [e, ep] at nq; cases nq
        have qnew : q ∉ qs := fun hm => by
          obtain ⟨j, hj, e⟩ := List.mem_iff_getElem.mp hm
          have z := (R.row j q (by rw [List.getElem?_eq_getElem hj, e])).2
          rw [z] at nq; cases nq
        have up1 : (upd H2 p (.lst (qs.map V.ref ++ [V.ref q]))) p = some (.lst ((qs ++ [q]).map V.ref)) := by rw [upd_same, List.map_append]; rfl
        refine ⟨⟨k + 1, qs ++ [q], rfl, same_set (sm.trans s2) fp, up1, by simp [npq, qp.symm], ⟨by rw [List.length_append, R.len]; rfl, List.nodup_append.mpr ⟨R.nd, by simp, fun a ha b hb => by rw [List.mem_singleton.mp hb]; exact fun e => qnew (by rw [← e]; exact ha)⟩, ?_⟩, by omega⟩, ?_⟩
        · intro j y hj
          by_cases hjk : j < qs.length
          · rw [List.getElem?_append_left hjk] at hj
            obtain ⟨z1, z2⟩ := R.row j y hj
            have yp : y ≠ p := fun e => npq (e ▸ List.mem_of_getElem? hj)
            exact ⟨z1, by rw [upd_ne yp]; exact s2 _ _ z2⟩
          · have hj2 : j = qs.length := by
              have := (List.getElem?_eq_some_iff.mp hj).1
              rw [List.length_append] at this
              simp at this
              omega
            subst hj2
            rw [List.getElem?_append_right (Nat.le_refl _), Nat.sub_self] at hj
            cases hj
            refine ⟨sm.free nq, ?_⟩
            rw [upd_ne qp, eq, R.len]; rfl
        · show (match (upd H2 p (.lst (qs.map V.ref ++ [V.ref q]))) p with | some (.lst xs) => n - xs.length | _ => 0) < (match H' p with | some (.lst xs) => n - xs.length | _ => 0)
          rw [upd_same, ep]
          show n - (qs.map V.ref ++ [V.ref q]).length < n - (qs.map V.ref).length
          rw [List.length_append, List.length_map, R.len]
          show n - (k + 1 + 1) < n - (k + 1)
          omega
      · have c := of_decide_eq_false (Bool.eq_false_iff.mpr c)
        rw [List.length_map, R.len] at c
        have e : k + 1 = n := by omega
        subst e
        exact ⟨_, rfl, kY _ rfl (by omega) (by omega) H' p qs sm fp ep npq R⟩
    · intro σ H' Q1 Q2 hq hc
      obtain ⟨v, e1, a, ys, e2, e3, v2, e4, i, j, e5, e6, b, e7, e8⟩ := hc
      exact ⟨v, e1, a, ys, e2, e3, v2, e4, i, j, e5, e6, b, e7, hq _ _ e8⟩

theorem ok_row (T : Txt K mg) : DefOk P w K mg base (L2.CX P w) 4 "row" ["n"] (spRow K (He.ga K "NoNumber")) := by
  have D_rows_to : DefOk P w K mg base (L2.CX P w) 3 "rows_to" ["n"] (spRowsTo K (He.ga K "NoNumber")) := ok_rows_to T
  refine def_of T.d_row T.g_row (fun _ _ _ _ _ _ us hl => match us, hl with | [_], _ => rfl) fun fd F => ?_
  refine F.ok sc_row (fun vs H Q E h => ?_) (fun cdv A outer s H vs Q E hr h => ?_)
  · obtain ⟨x, z, rfl, _⟩ := h; rfl
  · obtain ⟨x, z, rfl, hT, kN, kY⟩ := h
    refine ⟨_, (pss_one (ps_ret (pe_ix (ixLK K) (pe_callD (E := E) D_rows_to hr (by rfl) (passOut (takes_of rfl rfl rfl rfl)) (pa_cons (pv 0) pa_nil)) (pe_un un_neg pe_int) (fun _ _ => rfl)))), ?_⟩
    refine ⟨_, rfl, x, z, rfl, hT, kN, fun n e h1 h2 H' p qs sm fp ep npq R => ?_⟩
    obtain ⟨m, rfl⟩ : ∃ m, n = m + 1 := ⟨n - 1, by omega⟩
    have hm : m < qs.length := by rw [R.len]; omega
    have hq := R.row m _ (List.getElem?_eq_getElem hm)
    refine ⟨_, rfl, p, _, _, .ref qs[m], rfl, rfl, SqL.of ep, by rw [refs_last R.len]; exact atI_last _ _, kY m e (by omega) H' _ sm hq.1 hq.2⟩

def spLawRows : Sp := fun vs H Q _ => ∃ n : Nat, vs = [.int (n : Int)] ∧ 1 ≤ n ∧ n ≤ 60 ∧ ∀ H' p qs, Same H H' → H p = none → H' p = some (.lst (qs.map V.ref)) → p ∉ qs → Rows H H' qs n → Q (.ref p) H'
theorem Rows.more {H H3 H4 : Hp} {rs : List Addr} {n : Nat} {y : Addr} (B : Rows H H3 rs n) (fy : H y = none) (ny : y ∉ rs) (k : ∀ q o, q ∈ rs → H3 q = some o → H4 q = some o) (ey : H4 y = some (.lst ((rowN n).map V.int))) : Rows H H4 (rs ++ [y]) (n + 1) := by
  refine ⟨by rw [List.length_append, B.len]; rfl, List.nodup_append.mpr ⟨B.nd, by simp, fun a ha b hb => by rw [List.mem_singleton.mp hb]; exact fun e => ny (by rw [← e]; exact ha)⟩, fun i q h => ?_⟩
  by_cases hi : i < rs.length
  · rw [List.getElem?_append_left hi] at h
    obtain ⟨z1, z2⟩ := B.row i q h
    exact ⟨z1, k q _ (List.mem_of_getElem? h) z2⟩
  · have hi2 : i = rs.length := by
      have := (List.getElem?_eq_some_iff.mp h).1
      rw [List.length_append] at this
      simp at this
      omega
    subst hi2
    rw [List.getElem?_append_right (Nat.le_refl _), Nat.sub_self] at h
    cases h
    exact ⟨fy, by rw [B.len]; exact ey⟩
theorem Rows.not_in {H H3 : Hp} {rs : List Addr} {n : Nat} {y : Addr} (B : Rows H H3 rs n) (ny : H3 y = none) : y ∉ rs := fun hm => by
  obtain ⟨j, hj, e⟩ := List.mem_iff_getElem.mp hm
  have z := (B.row j y (by rw [List.getElem?_eq_getElem hj, e])).2
  rw [z] at ny; cases ny
theorem nextRow_rev (k : Nat) : (sumsTo (rowN k) (rowN k).length) = (rowN (k + 1)).reverse := by
  show _ = (nextRow (rowN k)).reverse
  unfold nextRow
  rw [List.reverse_reverse]
theorem ok_law_rows (T : Txt K mg) : DefOk P w K mg base CX0 1 "_law_rows" ["_law_most"] spLawRows := by
  refine def_of T.d_law_rows T.g_law_rows (fun _ _ _ _ _ _ us hl => match us, hl with | [_], _ => rfl) fun fd F => ?_
  refine F.ok sc_law_rows (fun vs H Q E h => ?_) (fun cdv A outer s H vs Q E hr h => ?_)
  · obtain ⟨n, rfl, _⟩ := h; rfl
  · obtain ⟨n, rfl, h1, h2, kY⟩ := h
    refine ⟨_, PSs.nox (pss_cons (ps_set (i := 1) sc_law_rows.nd rfl (Or.inl rfl) (pe_lst (pa_cons (pe_lst (pa_cons pe_int pa_nil)) pa_nil)))
 (pss_cons (ps_set (i := 2) sc_law_rows.nd rfl (Or.inl rfl) (pe_lst (pa_cons pe_int pa_nil)))
 (pss_cons (ps_for PassesOwn.never rfl (pi_range2 (by rfl) T.n_range (pa_cons pe_int (pa_cons (pe_op op_add (pv 0) pe_int) pa_nil))) (pg_name (i := 3) sc_law_rows.nd rfl (Or.inl rfl)) (pss_cons (ps_set (i := 4) sc_law_rows.nd rfl (Or.inl rfl) (pe_lst (pa_cons pe_int pa_nil)))
 (pss_cons (ps_for PassesOwn.never rfl (pi_list (revLK K (pv 2))) (pg_name (i := 5) sc_law_rows.nd rfl (Or.inl rfl)) (pss_one (ps_expr (pe_bm PySem.F.plainAttrs_list PySem.F.slot_list_append PySem.F.type_list_append mt_append (pv 4) (pa_cons (pe_op op_add (pe_ix (ixLK K) (pv 4) (pe_un un_neg pe_int) (fun _ _ => rfl)) (pv 5)) pa_nil)))))
 (pss_cons (ps_set (i := 2) sc_law_rows.nd rfl (Or.inl rfl) (pv 4))
 (pss_one (ps_expr (pe_bm PySem.F.plainAttrs_list PySem.F.slot_list_append PySem.F.type_list_append mt_append (pv 1) (pa_cons (revLK K (pv 2)) pa_nil))))))))
 (pss_one (ps_ret (pv 1)))))), ?_⟩
    refine ⟨sz 1, fun r nr => ?_⟩
    refine ⟨sz 1, fun p np => ?_⟩
    refine ⟨sz 1, fun g ng => ?_⟩
    have s1 := same_new (o := .lst [.int 1]) nr
    have s2 := s1.trans (same_new (o := .lst [.ref r]) np)
    have s3 := s2.trans (same_new (o := .lst [.int 1]) ng)
    have fp : H p = none := s1.free np
    have fg : H g = none := s2.free ng
    have rp : r ≠ p := ne_of_none upd_same np
    have rg : r ≠ g := ne_of_none ((same_new np) _ _ upd_same) ng
    have pg : p ≠ g := ne_of_none upd_same ng
    refine ⟨_, rfl, _, _, rfl, rfl, 2, (n : Int) + 1, rfl, ⟨by decide, by decide, by omega, by omega⟩, ?_⟩
    have en : ((n : Int) + 1 - 2).toNat = n - 1 := by omega
    rw [en]
    refine for_range (lo := 2) (n := n - 1) (fun i σ H' => ∃ g qs x3 x4 x5, σ = [some (.int (n : Int)), some (.ref p), some (.ref g), x3, x4, x5] ∧ Same H H' ∧ H' p = some (.lst (qs.map V.ref)) ∧ p ∉ qs ∧ p ≠ g ∧ H' g = some (.lst ((rowN i).reverse.map V.int)) ∧ Rows H H' qs (i + 1))
      ⟨g, [r], none, none, none, rfl, s3, by rw [upd_ne pg]; exact upd_same, by simpa using rp.symm, pg, upd_same, rfl, by simp, ?_⟩ ?_ ?_
    · intro i q hq
      match i, hq with
      | 0, hq =>
        cases hq
        exact ⟨nr, by rw [upd_ne rg, upd_ne rp]; exact upd_same⟩
    · rintro i σ H' hi ⟨g, qs, x3, x4, x5, rfl, sm, ep, npq, pg, eg, R⟩
      refine ⟨sz 1, fun l nl => ?_⟩
      have pl : p ≠ l := ne_of_none ep nl
      have fl : H l = none := sm.free nl
      refine ⟨_, rfl, g, _, rfl, SqL.of ((same_new nl) _ _ eg), fun v nv => ?_⟩
      have lv : l ≠ v := ne_of_none upd_same nv
      have ev : (upd (upd H' l (.lst [.int 0])) v (.lst ((rowN i).reverse.map V.int).reverse)) v = some (.lst ((rowN i).map V.int)) := by rw [upd_same, ← List.map_reverse, List.reverse_reverse]
      refine ⟨v, rfl, ⟨_, SqL.of ev⟩, for_list (xs := (rowN i).map V.int) (fun j σ H3 => ∃ y, σ = [some (.int (n : Int)), some (.ref p), some (.ref g), some (.int (2 + (i : Int))), some (.ref l), y] ∧ Same H' H3 ∧ H3 v = some (.lst ((rowN i).map V.int)) ∧ H3 l = some (.lst ((sumsTo (rowN i) j).map V.int))) ⟨x5, rfl, (same_new nl).trans (same_new nv), ev, by rw [upd_ne lv]; exact upd_same⟩ (fun j σ H3 _ ⟨_, _, _, e, _⟩ => SqL.of e) ?_ ?_⟩
      · rintro j x σ H3 hj ⟨y, rfl, s5, ev3, el⟩
        obtain ⟨z, hz, rfl⟩ := get_ints hj
        have hin : j < (rowN i).length := (List.getElem?_eq_some_iff.mp hz).1
        rw [rowN_len] at hin
        obtain ⟨l0, e0⟩ := sumsTo_last (rowN i) j
        refine ⟨_, rfl, .inl ⟨rfl, _, SqL.of el⟩, _, rfl, _, rfl, l, _, _, _, rfl, rfl, SqL.of el, last_ints e0, _, rfl, _, _, rfl, rfl, l, _, _, rfl, rfl, el, ?_, ?_⟩
        · rw [List.length_map, sumsTo_len]; exact Nat.lt_of_le_of_lt (show j + 1 ≤ 1000 by omega) (by decide)
        · refine ⟨_, rfl, same_set s5 nl, by rw [upd_ne lv.symm]; exact ev3, ?_⟩
          rw [upd_same, ← sum_more hz, List.map_append]; rfl
      · rintro σ H3 ⟨y, rfl, s5, ev3, el⟩
        rw [List.length_map, nextRow_rev] at el
        refine ⟨_, rfl, ?_⟩
        refine ⟨_, rfl, .inl ⟨rfl, _, SqL.of (s5 _ _ ep)⟩, _, rfl, l, _, rfl, SqL.of el, fun u nu => ?_⟩
        have up : u ≠ p := fun e => by rw [e, s5 _ _ ep] at nu; cases nu
        have ul : u ≠ l := fun e => by rw [e, el] at nu; cases nu
        have su := same_new (o := .lst ((rowN (i + 1)).reverse.map V.int).reverse) nu
        refine ⟨p, _, _, rfl, rfl, su _ _ (s5 _ _ ep), by rw [List.length_map, R.len]; exact Nat.lt_of_le_of_lt (show i + 1 ≤ 1000 by omega) (by decide), ?_⟩
        have uq : u ∉ qs := fun hm => by
          obtain ⟨j, hj, e⟩ := List.mem_iff_getElem.mp hm
          have z := s5 _ _ (R.row j u (by rw [List.getElem?_eq_getElem hj, e])).2
          rw [z] at nu; cases nu
        refine ⟨l, qs ++ [u], _, _, _, rfl, same_set ((sm.trans s5).trans su) fp, by rw [upd_same, List.map_append]; rfl, ?_, pl, by rw [upd_ne pl.symm]; exact su _ _ el, ?_⟩
        · intro hm
          cases List.mem_append.mp hm with
          | inl z => exact npq z
          | inr z => exact up (List.mem_singleton.mp z).symm
        · refine R.more ((sm.trans s5).free nu) uq (fun q o hq ho => ?_) ?_
          · rw [upd_ne (fun e => npq (by rw [← e]; exact hq))]
            exact su _ _ (s5 _ _ ho)
          · rw [upd_ne up, upd_same, ← List.map_reverse, List.reverse_reverse]
    · rintro σ H' ⟨g, qs, x3, x4, x5, rfl, sm, ep, npq, pg, eg, R⟩
      have e : n - 1 + 1 = n := by omega
      rw [e] at R
      exact ⟨_, rfl, kY H' p qs sm fp ep npq R⟩

def sgn (l : List Int) (k : Nat) : Nat := if l.getD k 0 < l.getD (k + 1) 0 then 117 else 100
def turnsN (l : List Int) (n : Nat) : Str := ⟨((List.range n).map (sgn l)).toArray⟩
theorem turnsN_len (l : List Int) (n : Nat) : (turnsN l n).length = n := by
  show Array.size _ = n
  unfold turnsN; simp
theorem turnsN_more (l : List Int) (n : Nat) : turnsN l (n + 1) = turnsN l n ++ (⟨#[sgn l n]⟩ : Str) := by
  refine congrArg Str.mk ?_
  show _ = ((List.range n).map (sgn l)).toArray ++ [sgn l n].toArray
  rw [List.range_succ, List.map_append]; simp
def spTurnsOf : Sp := fun vs H Q _ => ∃ a l, vs = [.ref a] ∧ H a = some (.tup (l.map V.int)) ∧ 1 ≤ l.length ∧ l.length ≤ 1000 ∧ ∀ H', Same H H' → Q (.str (turnsN l (l.length - 1))) H'
theorem gI {l : List Int} {j : Nat} (h : j < l.length) : (l.map V.int)[j]? = some (.int (l.getD j 0)) := by
  rw [List.getElem?_map, List.getElem?_eq_getElem h, List.getD_eq_getElem?_getD, List.getElem?_eq_getElem h]; rfl
theorem small_n {n : Nat} (h : n ≤ 10000) : n < sizeLine := Nat.lt_of_le_of_lt h (by decide)
theorem ok_law_turns_of (T : Txt K mg) : DefOk P w K mg base CX0 1 "_law_turns_of" ["_law_some"] spTurnsOf := by
  refine def_of T.d_law_turns_of T.g_law_turns_of (fun _ _ _ _ _ _ us hl => match us, hl with | [_], _ => rfl) fun fd F => ?_
  refine F.ok sc_law_turns_of (fun vs H Q E h => ?_) (fun cdv A outer s H vs Q E hr h => ?_)
  · obtain ⟨a, l, rfl, _⟩ := h; rfl
  · obtain ⟨a, l, rfl, ea, h1, h2, kY⟩ := h
    refine ⟨_, PSs.nox (pss_cons (ps_set (i := 1) sc_law_turns_of.nd rfl (Or.inl rfl) pe_str)
 (pss_cons (ps_for PassesOwn.never rfl (pi_range1 (by rfl) T.n_range (pa_cons (pe_op op_sub (pe_callB (lenK K) (by rfl) T.n_len boot_len (pa_cons (pv 0) pa_nil)) pe_int) pa_nil)) (pg_name (i := 2) sc_law_turns_of.nd rfl (Or.inl rfl)) (pss_one (ps_set (i := 1) sc_law_turns_of.nd rfl (Or.inl rfl) (pe_op op_add_str (pv 1) (pe_ix (ixLK K) (pe_lst (pa_cons pe_str (pa_cons pe_str pa_nil))) (pe_callTy call_int1 (by rfl) T.n_int (by decide +kernel) (pa_cons (pe_cmpR op_lt (pe_ix (ixTK K) (pv 0) (pv 2) (fun _ _ => rfl)) (pe_ix (ixTK K) (pv 0) (pe_op op_add (pv 2) pe_int) (fun _ _ => rfl)) (nomark _)) pa_nil)) (fun _ _ => rfl))))))
 (pss_one (ps_ret (pv 1))))), ?_⟩
    refine ⟨_, rfl, a, _, rfl, .inr (SqT.of ea), ?_⟩
    rw [List.length_map]
    refine ⟨_, _, rfl, rfl, (l.length : Int) - 1, rfl, by omega, by omega, ?_⟩
    have en : ((l.length : Int) - 1).toNat = l.length - 1 := by omega
    rw [en]
    refine for_range (lo := 0) (n := l.length - 1) (fun i σ H' => ∃ y, σ = [some (.ref a), some (.str (turnsN l i)), y] ∧ Same H H') ⟨none, rfl, Same.refl _⟩ ?_ ?_
    · rintro i σ H' hi ⟨y, rfl, sm⟩
      refine ⟨_, rfl, sz 2, fun d nd => ?_⟩
      have sd := same_new (o := .lst [.str "d", .str "u"]) nd
      have ea2 : (upd H' d (.lst [.str "d", .str "u"])) a = some (.tup (l.map V.int)) := sd _ _ (sm _ _ ea)
      refine ⟨_, rfl, _, rfl, a, _, _, _, rfl, rfl, SqT.of ea2, at_of (j := i) (by omega) (gI (by omega)), ?_⟩
      refine ⟨_, rfl, _, rfl, _, _, rfl, rfl, a, _, _, _, rfl, rfl, SqT.of ea2, at_of (j := i + 1) (by omega) (gI (by omega)), ?_⟩
      refine ⟨_, _, rfl, rfl, .inr ⟨_, rfl, d, _, _, .str ⟨#[sgn l i]⟩, rfl, rfl, SqL.of upd_same, ?_, _, _, rfl, rfl, ?_, ?_⟩⟩
      · unfold sgn
        by_cases c : l.getD i 0 < l.getD (i + 1) 0
        · rw [if_pos c, decide_eq_true c]; rfl
        · rw [if_neg c, decide_eq_false c]; rfl
      · rw [turnsN_len]; exact Nat.le_of_lt (small_n (by show i + 1 ≤ 10000; omega))
      · exact ⟨_, by rw [← turnsN_more]; rfl, sm.trans sd⟩
    · rintro σ H' ⟨y, rfl, sm⟩
      exact ⟨_, rfl, kY H' sm⟩

def upS (k : Nat) : Nat := if k % 2 = 0 then 117 else 100
def upN (n : Nat) : Str := ⟨((List.range n).map upS).toArray⟩
theorem upN_len (n : Nat) : (upN n).length = n := by
  show Array.size _ = n
  unfold upN; simp
theorem upN_more (n : Nat) : upN (n + 1) = upN n ++ (⟨#[upS n]⟩ : Str) := by
  refine congrArg Str.mk ?_
  show _ = ((List.range n).map upS).toArray ++ [upS n].toArray
  rw [List.range_succ, List.map_append]; simp
def spByTurns : Sp := fun vs H Q _ => ∃ n : Nat, vs = [.int (n : Int), .str "u"] ∧ n ≤ 1000 ∧ ∀ H', Same H H' → Q (.str (upN n)) H'
theorem ok_law_by_turns (T : Txt K mg) : DefOk P w K mg base CX0 1 "_law_by_turns" ["_law_size", "_law_first"] spByTurns := by
  refine def_of T.d_law_by_turns T.g_law_by_turns (fun _ _ _ _ _ _ us hl => match us, hl with | [_, _], _ => rfl) fun fd F => ?_
  refine F.ok sc_law_by_turns (fun vs H Q E h => ?_) (fun cdv A outer s H vs Q E hr h => ?_)
  · obtain ⟨n, rfl, _⟩ := h; rfl
  · obtain ⟨n, rfl, h2, kY⟩ := h
    refine ⟨_, PSs.nox (pss_cons (ps_set (i := 2) sc_law_by_turns.nd rfl (Or.inl rfl) pe_str)
 (pss_cons (ps_for PassesOwn.never rfl (pi_range1 (by rfl) T.n_range (pa_cons (pv 0) pa_nil)) (pg_name (i := 3) sc_law_by_turns.nd rfl (Or.inl rfl)) (pss_one (ps_set (i := 2) sc_law_by_turns.nd rfl (Or.inl rfl) (pe_op op_add_str (pv 2) (pe_ix ix_str (pe_ix (ixLK K) (pe_lst (pa_cons pe_str (pa_cons pe_str pa_nil))) (pe_callTy call_int1 (by rfl) T.n_int (by decide +kernel) (pa_cons (pe_cmpR op_eq (pv 1) pe_str (nomark _)) pa_nil)) (fun _ _ => rfl)) (pe_op op_mod (pv 3) pe_int) (fun _ _ => rfl))))))
 (pss_one (ps_ret (pv 2))))), ?_⟩
    refine ⟨_, rfl, (n : Int), rfl, by omega, by omega, ?_⟩
    have en : ((n : Int)).toNat = n := by omega
    rw [en]
    refine for_range (lo := 0) (n := n) (fun i σ H' => ∃ y, σ = [some (.int (n : Int)), some (.str "u"), some (.str (upN i)), y] ∧ Same H H') ⟨none, rfl, Same.refl _⟩ ?_ ?_
    · rintro i σ H' hi ⟨y, rfl, sm⟩
      refine ⟨_, rfl, sz 2, fun d nd => ?_⟩
      have sd := same_new (o := .lst [.str "ud", .str "du"]) nd
      have hne : decide (V.str (Str.ofString "u") = V.str (Str.ofString "d")) = false := decide_eq_false fun c => absurd (V.str.inj c) (by decide)
      refine ⟨_, rfl, rfl, .inr ⟨_, rfl, d, _, _, .str "ud", rfl, rfl, SqL.of upd_same, by rw [hne]; rfl, ?_⟩⟩
      refine ⟨_, rfl, _, _, rfl, rfl, (by show (0 : Int) < 2; decide), "ud", (0 + (i : Int)) % 2, upS i, rfl, rfl, by decide, ?_, _, _, rfl, rfl, ?_, ?_⟩
      · unfold upS
        by_cases c : i % 2 = 0
        · rw [if_pos c, show (0 + (i : Int)) % 2 = 0 by omega]; rfl
        · rw [if_neg c, show (0 + (i : Int)) % 2 = 1 by omega]; rfl
      · rw [upN_len]; exact Nat.le_of_lt (small_n (by show i + 1 ≤ 10000; omega))
      · exact ⟨_, by rw [← upN_more]; rfl, sm.trans sd⟩
    · rintro σ H' ⟨y, rfl, sm⟩
      exact ⟨_, rfl, kY H' sm⟩

def insAt (x : Int) (l : List Int) (k : Nat) : List Int := l.take k ++ [x] ++ l.drop k
def insAll (x : Int) (n : Nat) (l : List Int) : List (List Int) := (List.range n).map (insAt x l)
def ords : Nat → List (List Int)
  | 0 => [[]]
  | n + 1 => (ords n).flatMap (insAll ((n + 1 : Nat) : Int) (n + 1))
theorem ords_ok : ∀ n : Nat, n ≤ 7 → (ords n).length ≤ 5040 ∧ ∀ l ∈ ords n, l.length = n ∧ TS.Bd 10 l := by
  have key : (List.range 8).all (fun n => decide ((ords n).length ≤ 5040) && (ords n).all fun l => decide (l.length = n) && l.all fun z => decide (0 ≤ z) && decide (z < 10)) = true := by decide +kernel
  intro n hn
  have z := List.all_eq_true.mp key n (List.mem_range.mpr (by omega))
  rw [Bool.and_eq_true] at z
  refine ⟨of_decide_eq_true z.1, fun l hl => ?_⟩
  have y := List.all_eq_true.mp z.2 l hl
  rw [Bool.and_eq_true] at y
  refine ⟨of_decide_eq_true y.1, fun m hm => ?_⟩
  have x := List.all_eq_true.mp y.2 m hm
  rw [Bool.and_eq_true] at x
  exact ⟨of_decide_eq_true x.1, of_decide_eq_true x.2⟩
theorem small_len {n : Nat} (h : n ≤ 10000) : n ≤ sizeLine := Nat.le_of_lt (small_n h)
def spOrders : Sp := fun vs H Q _ => ∃ n : Nat, vs = [.int (n : Int)] ∧ 1 ≤ n ∧ n ≤ 7 ∧ ∀ H' p us ls, Same H H' → H p = none → H' p = some (.lst (us.map V.ref)) → TupsAt H' us ls → ls.Perm (ords n) → Q (.ref p) H'
theorem take_more {α : Type} {l : List α} {j : Nat} {x : α} (h : l[j]? = some x) : l.take (j + 1) = l.take j ++ [x] := by
  rw [List.take_add_one, h]; rfl
theorem ok_law_orders (T : Txt K mg) : DefOk P w K mg base CX0 1 "_law_orders" ["_law_size"] spOrders := by
  refine def_of T.d_law_orders T.g_law_orders (fun _ _ _ _ _ _ us hl => match us, hl with | [_], _ => rfl) fun fd F => ?_
  refine F.ok sc_law_orders (fun vs H Q E h => ?_) (fun cdv A outer s H vs Q E hr h => ?_)
  · obtain ⟨n, rfl, _⟩ := h; rfl
  · obtain ⟨n, rfl, h1, h2, kY⟩ := h
    refine ⟨_, PSs.nox (pss_cons (ps_set (i := 1) sc_law_orders.nd rfl (Or.inl rfl) (pe_lst (pa_cons (pe_tup pa_nil) pa_nil)))
 (pss_cons (ps_for PassesOwn.never rfl (pi_range2 (by rfl) T.n_range (pa_cons pe_int (pa_cons (pe_op op_add (pv 0) pe_int) pa_nil))) (pg_name (i := 2) sc_law_orders.nd rfl (Or.inr rfl)) (pss_cons (ps_set (i := 3) sc_law_orders.nd rfl (Or.inl rfl) (pe_lst pa_nil))
 (pss_cons (ps_for PassesOwn.never rfl (pi_list (pv 1)) (pg_name (i := 4) sc_law_orders.nd rfl (Or.inr rfl)) (pss_one (ps_expr (pe_bm PySem.F.plainAttrs_list PySem.F.slot_list_extend PySem.F.type_list_extend mt_extend (pv 3) (pa_cons (pe_lc (own := [("_law_k", 5)]) (g := gName 5) (tt := tYes) (by rfl) sc_law_orders.nd (pi_range1 (by rfl) T.n_range (pa_cons (pv 2) pa_nil)) (blkOk_by (own := [("_law_k", 5)]) (N := N_law_orders) (sc := defScope S_law_orders) (by decide +kernel)) (fun _ _ _ _ _ => (pg_name (i := 5) sc_law_orders.nd rfl (Or.inl rfl))) (fun _ _ _ _ _ => pts_nil) (fun _ _ _ _ _ => (pe_op (catAK K) (pe_op (catAK K) (pe_slice (slAK K) (pv 4) po_none (po_some (pv 5))) (pe_tup (pa_cons (pv 2) pa_nil))) (pe_slice (slAK K) (pv 4) (po_some (pv 5)) po_none)))) pa_nil)))))
 (pss_one (ps_set (i := 1) sc_law_orders.nd rfl (Or.inl rfl) (pv 3))))))
 (pss_one (ps_ret (pe_callB (sortTK K) (by rfl) T.n_sorted (by decide +kernel) (pa_cons (pv 1) pa_nil)))))), ?_⟩
    refine ⟨sz 0, fun t nt => ?_⟩
    refine ⟨sz 1, fun f nf => ?_⟩
    have s1 := same_new (o := .tup []) nt
    have s2 := s1.trans (same_new (o := .lst [.ref t]) nf)
    have ft : t ≠ f := ne_of_none upd_same nf
    refine ⟨_, rfl, _, _, rfl, rfl, 1, (n : Int) + 1, rfl, ⟨by decide, by decide, by omega, by omega⟩, ?_⟩
    have en : ((n : Int) + 1 - 1).toNat = n := by omega
    rw [en]
    refine for_range (lo := 1) (n := n) (fun i σ H' => ∃ f ts x2 x3 x4 x5, σ = [some (.int (n : Int)), some (.ref f), x2, x3, x4, x5] ∧ Same H H' ∧ H f = none ∧ H' f = some (.lst (ts.map V.ref)) ∧ TupsAt H' ts (ords i))
      ⟨f, [t], none, none, none, none, rfl, s2, s1.free nf, upd_same, TupsAt.one (l := []) (by rw [upd_ne ft]; exact upd_same)⟩ ?_ ?_
    · rintro i σ H' hi ⟨f, ts, x2, x3, x4, x5, rfl, sm, nf, ef, tf⟩
      obtain ⟨lo, ok⟩ := ords_ok i (by omega)
      refine ⟨sz 0, fun g ng => ?_⟩
      have sg := same_new (o := .lst []) ng
      have fg : f ≠ g := ne_of_none ef ng
      refine ⟨_, rfl, f, rfl, ⟨_, SqL.of (sg _ _ ef)⟩, ?_⟩
      refine for_list (K := K) (xs := ts.map V.ref) (fun j σ H3 => ∃ gs y4 y5, σ = [some (.int (n : Int)), some (.ref f), some (.int (1 + (i : Int))), some (.ref g), y4, y5] ∧ Same H' H3 ∧ H3 g = some (.lst (gs.map V.ref)) ∧ TupsAt H3 gs (((ords i).take j).flatMap (insAll ((i + 1 : Nat) : Int) (i + 1))))
        ⟨[], x4, x5, rfl, sg, upd_same, TupsAt.nil _⟩ (fun j σ H3 _ ⟨_, _, _, _, s3, _⟩ => SqL.of (s3 _ _ ef)) ?_ ?_
      · rintro j x σ H3 hj ⟨gs, y4, y5, rfl, s3, eg, tg⟩
        obtain ⟨t, htj, rfl⟩ := get_ref hj
        obtain ⟨l, hl, et⟩ := tf.get htj
        obtain ⟨ll, lb⟩ := ok l (List.mem_of_getElem? hl)
        have jl : j < ts.length := (List.getElem?_eq_some_iff.mp htj).1
        refine ⟨_, rfl, .inl ⟨rfl, _, SqL.of eg⟩, _, rfl, 1 + (i : Int), rfl, by omega, by omega, fun D nD => ?_⟩
        have gD : g ≠ D := ne_of_none eg nD
        have en3 : (1 + (i : Int)).toNat = i + 1 := by omega
        rw [en3]
        refine lc_range (lo := 0) (n := i + 1) (fun k H5 => Same H3 H5 ∧ ∃ ds : List Addr, H5 D = some (.lst (ds.map V.ref)) ∧ TupsAt H5 ds ((List.range k).map (insAt ((i + 1 : Nat) : Int) l))) ⟨same_new nD, [], upd_same, TupsAt.nil _⟩ ?_ ?_
        · rintro k H5 hk ⟨s5, ds, eD, td⟩
          have et5 := s5 _ _ (s3 _ _ et)
          refine ⟨rfl, _, rfl, _, rfl, _, rfl, ?_⟩
          rw [Int.zero_add]
          refine take_by et5 fun H6 p6 s6 e6 => ?_
          refine ⟨_, rfl, sz 1, fun q7 n7 => ?_⟩
          have s7 := same_new (o := .tup [.int (1 + (i : Int))]) n7
          have e7 : (upd H6 q7 (.tup [.int (1 + (i : Int))])) q7 = some (.tup (([((i + 1 : Nat) : Int)] : List Int).map V.int)) := by
            rw [upd_same, show (1 + (i : Int)) = ((i + 1 : Nat) : Int) by omega]; rfl
          refine cat_by (s7 _ _ e6) e7 (small_len (by rw [List.length_take]; show min k l.length + 1 ≤ 10000; omega)) fun H8 p8 s8 e8 => ?_
          have et8 := s8 _ _ (s7 _ _ (s6 _ _ et5))
          refine ⟨_, rfl, _, rfl, _, rfl, ?_⟩
          dsimp only [tNoPart]
          refine drop_by et8 fun H9 p9 s9 e9 => ?_
          refine cat_by (s9 _ _ e8) e9 (small_len (by rw [List.length_append, List.length_take, List.length_drop]; show min k l.length + 1 + (l.length - k) ≤ 10000; omega)) fun H10 p10 s10 e10 => ?_
          have sA : Same H5 H10 := (((s6.trans s7).trans s8).trans s9).trans s10
          have eD10 := sA _ _ eD
          refine ⟨_, eD10, small_n (by rw [List.length_map, td.len, List.length_map, List.length_range]; omega), same_set (s5.trans sA) nD, ds ++ [p10], ?_, ?_⟩
          · rw [upd_same, List.map_append]; rfl
          · rw [List.range_succ, List.map_append]
            exact ((td.same sA).add (TupsAt.one e10)).set eD10
        · rintro H5 ⟨s5, ds, eD, td⟩
          have eg5 := s5 _ _ eg
          have gl : gs.length + ds.length ≤ 5040 := by
            have z : (((ords i).take (j + 1)).flatMap (insAll ((i + 1 : Nat) : Int) (i + 1))).length ≤ (ords (i + 1)).length := by
              show _ ≤ ((ords i).flatMap (insAll ((i + 1 : Nat) : Int) (i + 1))).length
              conv => rhs; rw [← List.take_append_drop (j + 1) (ords i), List.flatMap_append, List.length_append]
              omega
            rw [take_more hl, List.flatMap_append, List.length_append, List.flatMap_singleton, ← tg.len] at z
            have z2 := td.len
            have z3 := (ords_ok (i + 1) (by omega)).1
            have z4 : (insAll ((i + 1 : Nat) : Int) (i + 1) l).length = ds.length := z2.symm
            omega
          refine ⟨g, D, _, _, rfl, rfl, eg5, eD, small_len (by rw [List.length_map, List.length_map]; omega), gs ++ ds, _, _, rfl, ?_, ?_, ?_⟩
          · exact same_set (s3.trans s5) ng
          · rw [upd_same, List.map_append]
          · rw [take_more hl, List.flatMap_append]
            refine TupsAt.set ((tg.same s5).add ?_) eg5
            rw [List.flatMap_singleton]
            exact td
      · rintro σ H3 ⟨gs, y4, y5, rfl, s3, eg, tg⟩
        rw [List.length_map, tf.len, List.take_length] at tg
        exact ⟨_, rfl, g, gs, _, _, _, _, rfl, sm.trans s3, sm.free ng, eg, tg⟩
    · rintro σ H' ⟨f, ts, x2, x3, x4, x5, rfl, sm, nf, ef, tf⟩
      obtain ⟨lo, ok⟩ := ords_ok n h2
      refine ⟨_, rfl, f, ts, tk H', n, 10, rfl, SqL.of ef, h1, tf.tat ok, fun us p pm _ np => ?_⟩
      obtain ⟨ms, tm, pq⟩ := tf.perm pm
      exact kY _ p us ms (sm.trans (same_new np)) (sm.free np) upd_same (tm.same (same_new np)) pq

theorem numbers_of {r0 r1 : Int} (a0 : 0 ≤ r0) (a1 : r0 < 60) (b0 : 0 ≤ r1) (b1 : r1 < 12) {i : Nat} {x : V} (h : ([.int 1, .int 60, .int (1 + r0), .int (1 + r1)] : List V)[i]? = some x) : ∃ n : Nat, x = .int ((n + 1 : Nat) : Int) ∧ n < 60 := by
  have key : ∀ z : Int, 1 ≤ z → z ≤ 60 → ∃ n : Nat, (V.int z) = .int ((n + 1 : Nat) : Int) ∧ n < 60 := fun z h1 h2 => ⟨(z - 1).toNat, congrArg V.int (by omega), by omega⟩
  match i, h with
  | 0, h => cases h; exact key 1 (by decide) (by decide)
  | 1, h => cases h; exact key 60 (by decide) (by decide)
  | 2, h => cases h; exact key _ (by omega) (by omega)
  | 3, h => cases h; exact key _ (by omega) (by omega)
theorem in_false : ∀ k : Nat, inV (.bl true) ((List.replicate k false).map V.bl) = false
  | 0 => rfl
  | k + 1 => by
    show (eqV (.bl false) (.bl true) || inV (.bl true) ((List.replicate k false).map V.bl)) = false
    rw [in_false k]; rfl
theorem flat_bl : ∀ l : List Bool, (l.map V.bl).all flatV = true
  | [] => rfl
  | b :: l => by
    show (flatV (.bl b) && (l.map V.bl).all flatV) = true
    rw [flat_bl l]; rfl
/-- goes by turns, the first number's step up -/
def upB (l : List Int) : Bool := (List.range (l.length - 1)).all fun k => sgn l k == upS k
theorem upB_eq (l : List Int) : decide (V.str (turnsN l (l.length - 1)) = V.str (upN (l.length - 1))) = upB l := by
  rw [Bool.eq_iff_iff, decide_eq_true_iff]
  unfold upB
  rw [List.all_eq_true]
  constructor
  · intro h k hk
    have h2 : (List.range (l.length - 1)).map (sgn l) = (List.range (l.length - 1)).map upS := by
      have h3 := congrArg Str.cps (V.str.inj h)
      have h4 := congrArg Array.toList h3
      exact h4
    have := List.map_inj_left.mp h2 k hk
    exact beq_iff_eq.mpr this
  · intro h
    have h2 : (List.range (l.length - 1)).map (sgn l) = (List.range (l.length - 1)).map upS := List.map_inj_left.mpr fun k hk => beq_iff_eq.mp (h k hk)
    refine congrArg V.str (congrArg Str.mk ?_)
    rw [h2]
/-- how many of these begin with a number -/
def begins (ls : List (List Int)) (f : Int) : Nat := ((ls.filter upB).filter fun l => decide (l.getD 0 0 = f)).length
theorem begins_ok : ∀ n : Nat, n < 7 → rowN n = (List.range (n + 1)).map fun f => (begins (ords (n + 1)) ((f + 1 : Nat) : Int) : Int) := by
  have key : (List.range 7).all (fun n => decide (rowN n = (List.range (n + 1)).map fun f => (begins (ords (n + 1)) ((f + 1 : Nat) : Int) : Int))) = true := by decide +kernel
  intro n hn
  exact of_decide_eq_true (List.all_eq_true.mp key n (List.mem_range.mpr hn))
theorem begins_perm {ls ms : List (List Int)} (p : ls.Perm ms) (f : Int) : begins ls f = begins ms f := ((p.filter _).filter _).length_eq
theorem ok_law (T : Txt K mg) {fd : FuncData} (F : FnT K "law" S_law fd) (TB : LamX.TabB base mg (He.cT K ("law", none)).1 (He.cT K ("law", none)).2) : FnOk P w K mg base CX0 8 (He.ga K "law") fd ["_law_script"] (spLaw K (He.cT K ("law", none)).2) := by
  have D_law_rows : DefOk P w K mg base CX0 1 "_law_rows" ["_law_most"] spLawRows := ok_law_rows T
  have D_law_orders : DefOk P w K mg base CX0 1 "_law_orders" ["_law_size"] spOrders := ok_law_orders T
  have D_law_turns_of : DefOk P w K mg base CX0 1 "_law_turns_of" ["_law_some"] spTurnsOf := ok_law_turns_of T
  have D_law_by_turns : DefOk P w K mg base CX0 1 "_law_by_turns" ["_law_size", "_law_first"] spByTurns := ok_law_by_turns T
  have D_law_cell_at : DefOk P w K mg base CX0 1 "_law_cell_at" ["_law_script", "_law_k"] (spCellAt K) := ok_law_cell_at T
  have D_law_draw : DefOk P w K mg base CX0 1 "_law_draw" ["_law_cell", "_law_k", "_law_bound"] spDraw := ok_law_draw T
  have D_row : DefOk P w K mg base (L2.CX P w) 4 "row" ["n"] (spRow K (He.ga K "NoNumber")) := ok_row T
  have D_law_no_number : DefOk P w K mg base CX0 2 "_law_no_number" ["_law_cell", "_law_at", "_law_least", "_law_most"] (spNoNumber K) := ok_law_no_number T
  have D_law_class : PinOkD P w K mg base 1 "_law_class" ["_law_error"] (spClass K) := ok_law_class T
  obtain ⟨oc, od, dV, kV, doc, pm, an, cdv, ct, osl, rfl, lk, hcd, _, _⟩ := F.ex
  obtain ⟨c0, rfl⟩ := He.codeIn_ref hcd
  have ec : He.codeOf K ("law", none) = c0 := He.codeOf_eq lk rfl
  generalize ePt : (He.cT K ("law", none)).2 = Pt at *
  have eC : (He.cT K ("law", none)).1 = c0 := ec
  rw [eC] at TB
  refine fn_of lk hcd sc_law (fun vs H Q E h => ?_) (fun A outer s H vs Q E hr h => ?_)
  · obtain ⟨a, ns, rfl, _⟩ := h; rfl
  · obtain ⟨a, ns, rfl, hl, hS, hP, q⟩ := h
    have hcode : (envOfC "law" (defScope S_law) s.heap.objs.size (He.ga K "law") (.ref c0)).code = .ref c0 := rfl
    refine ⟨_, PSs.nox (pss_cons (ps_set (i := 1) sc_law.nd rfl (Or.inl rfl) (pe_callD D_law_rows hr (by rfl) pass0 (pa_cons pe_int pa_nil)))
 (pss_cons (ps_for PassesOwn.never rfl (pi_range2 (by rfl) T.n_range (pa_cons pe_int (pa_cons pe_int pa_nil))) (pg_name (i := 2) sc_law.nd rfl (Or.inr rfl)) (pss_cons (ps_set (i := 3) sc_law.nd rfl (Or.inr rfl) (pe_lc (own := [("_law_one", 9)]) (g := gName 9) (by rfl) sc_law.nd (pi_list (pe_callD D_law_orders hr (by rfl) pass0 (pa_cons (pv 2) pa_nil))) (blkOk_by (own := [("_law_one", 9)]) (N := N_law) (sc := defScope S_law) (by decide +kernel)) (fun _ _ _ _ _ => (pg_name (i := 9) sc_law.nd rfl (Or.inl rfl))) (fun _ _ _ _ _ => (pts_one (pt_cmpR op_eq (pe_callD D_law_turns_of hr (by rfl) pass0 (pa_cons (pv 9) pa_nil)) (pe_callD D_law_by_turns hr (by rfl) pass0 (pa_cons (pe_op op_sub (pv 2) pe_int) (pa_cons pe_str pa_nil))) (nomark _)))) (fun _ _ _ _ _ => (pv 9))))
 (pss_one (ps_if (pt_cmpR (neDK K hr.units) (pe_ix (ixLK K) (pv 1) (pe_op op_sub (pv 2) pe_int) (fun _ _ => rfl)) (pe_lc (own := [("_law_first", 10)]) (g := gName 10) (tt := tYes) (by rfl) sc_law.nd (pi_range2 (by rfl) T.n_range (pa_cons pe_int (pa_cons (pe_op op_add (pv 2) pe_int) pa_nil))) (blkOk_by (own := [("_law_first", 10)]) (N := N_law) (sc := defScope S_law) (by decide +kernel)) (fun _ _ _ _ _ => (pg_name (i := 10) sc_law.nd rfl (Or.inr rfl))) (fun _ _ _ _ _ => pts_nil) (fun _ _ _ _ _ => (pe_callB (lenK K) (by rfl) T.n_len boot_len (pa_cons (pe_lc (own := [("_law_one", 9)]) (g := gName 9) (by rfl) sc_law.nd (piLK K (pv 3)) (blkOk_by (own := [("_law_one", 9)]) (N := N_law) (sc := ({ kind := .function, names := [(".0", .local), ("_law_first", .cell), ("len", .globalImplicit), ("_law_some", .cell)], isGenerator := false, isCoroutine := false } : Scope)) (by decide +kernel)) (fun _ _ _ _ _ => (pg_name (i := 9) sc_law.nd rfl (Or.inl rfl))) (fun _ _ _ _ _ => (pts_one (pt_cmpR op_eq (pe_ix (ixTK K) (pv 9) pe_int (fun _ _ => rfl)) (pv 10) (nomark _)))) (fun _ _ _ _ _ => (pv 9))) pa_nil)))) (nomark _)) (pss_one (ps_ret pe_bl)) pss_nil))))
 (pss_cons (ps_for PassesOwn.never rfl (pi_range1 (by rfl) T.n_range (pa_cons (pe_callB (call_max2 rfl) (by rfl) T.n_max (by decide +kernel) (pa_cons pe_int (pa_cons (pe_callB (call_min2 rfl) (by rfl) T.n_min (by decide +kernel) (pa_cons (pe_callB (lenK K) (by rfl) T.n_len boot_len (pa_cons (pv 0) pa_nil)) (pa_cons pe_int pa_nil))) pa_nil))) pa_nil)) (pg_name (i := 4) sc_law.nd rfl (Or.inl rfl)) (pss_cons (ps_set (i := 5) sc_law.nd rfl (Or.inl rfl) (pe_callD D_law_cell_at hr (by rfl) pass0 (pa_cons (pv 0) (pa_cons (pv 4) pa_nil))))
 (pss_cons (ps_for PassesOwn.never rfl (pi_list (pe_lst (pa_cons pe_int (pa_cons pe_int (pa_cons (pe_op op_add pe_int (pe_callD D_law_draw hr (by rfl) pass0 (pa_cons (pv 5) (pa_cons pe_int (pa_cons pe_int pa_nil))))) (pa_cons (pe_op op_add pe_int (pe_callD D_law_draw hr (by rfl) pass0 (pa_cons (pv 5) (pa_cons pe_int (pa_cons pe_int pa_nil))))) pa_nil)))))) (pg_name (i := 2) sc_law.nd rfl (Or.inr rfl)) (pss_one (ps_for PassesOwn.never rfl (pi_range1 (by rfl) T.n_range (pa_cons pe_int pa_nil)) (pg_name (i := 6) sc_law.nd rfl (Or.inl rfl)) (pss_cons (ps_set (i := 7) sc_law.nd rfl (Or.inl rfl) (pe_callD D_row hr (by rfl) passL (pa_cons (pv 2) pa_nil)))
 (pss_cons (ps_if (PW.pt (pw_or (pt_not (pt_val (pe_callB (isiK K) (by rfl) T.n_isinstance (by decide +kernel) (pa_cons (pv 7) (pa_cons (pe_bltn (v := .ty "list") (u := .type "list") (by rfl) T.n_list (by decide +kernel) rfl) pa_nil))))) (pw_or1 (pt_cmpR (neDK K hr.units) (pv 7) (pe_ix (ixLK K) (pv 1) (pe_op op_sub (pv 2) pe_int) (fun _ _ => rfl)) (nomark _))))) (pss_one (ps_ret pe_bl)) pss_nil)
 (pss_cons (ps_if (pt_cmpR (inK K) pe_bl (pe_lc (own := [("_law_one", 9)]) (g := gName 9) (tt := tYes) (by rfl) sc_law.nd (pi_list (pv 7)) (blkOk_by (own := [("_law_one", 9)]) (N := N_law) (sc := defScope S_law) (by decide +kernel)) (fun _ _ _ _ _ => (pg_name (i := 9) sc_law.nd rfl (Or.inl rfl))) (fun _ _ _ _ _ => pts_nil) (fun _ _ _ _ _ => (pe_callB (isiK K) (by rfl) T.n_isinstance (by decide +kernel) (pa_cons (pv 9) (pa_cons (pe_bltn (v := .ty "bool") (u := .type "bool") (by rfl) T.n_bool (by decide +kernel) rfl) pa_nil))))) rfl) (pss_one (ps_ret pe_bl)) pss_nil)
 (pss_one (ps_expr (pe_bm PySem.F.plainAttrs_list PySem.F.slot_list_append PySem.F.type_list_append mt_append (pv 7) (pa_cons pe_int pa_nil))))))))))
 (pss_cons (ps_set (i := 8) sc_law.nd rfl (Or.inr rfl) (pe_callD D_law_no_number hr (by rfl) pass0 (pa_cons (pv 5) (pa_cons pe_int (pa_cons pe_int (pa_cons pe_int pa_nil))))))
 (pss_one (ps_if (pt_cmpR op_ne (pe_refused (t := fun E => (tCall (spRow K (He.ga K "NoNumber")) [] E (tCons (tVar 8) tNil))) T.d_law_refused T.g_law_refused D_law_class T.g_TurnError TB hr hcode (fun A outer s H E f c' hr2 => (pe_callD (E := E) D_row hr2 (by rfl) (passOut (takes_of rfl rfl rfl rfl)) (pa_cons (pv 8) pa_nil))) (L := LamX.lamS_by (show LamX.lamSB (defScope S_law) _ = true by decide +kernel))) pe_str (nomark _)) (pss_one (ps_ret pe_bl)) pss_nil))))))
 (pss_one (ps_ret (pe_and (pe_cmpR (eqDK K hr.units) (pe_callD D_row hr (by rfl) passL (pa_cons pe_int pa_nil)) (pe_lst (pa_cons pe_int pa_nil)) (nomark _)) (pe_one (pe_cmpR (eqDK K hr.units) (pe_callD D_row hr (by rfl) passL (pa_cons pe_int pa_nil)) (pe_lst (pa_cons pe_int (pa_cons pe_int (pa_cons pe_int (pa_cons pe_int pa_nil))))) (nomark _))))))))), ?_⟩
    have T0 : LamX.Tabs [(Pt, ("law" : Str) ++ (".<locals>." : Str) ++ ("<lambda>" : Str))] H := fun z hz => by rw [List.mem_singleton.mp hz]; exact LamX.TabS.nil hP
    refine ⟨60, rfl, by decide, by decide, fun H1 p qs s1 fp ep npq R => ?_⟩
    have T1 := tabs_same T0 s1
    have eRow : ∀ {H' : Hp} {i : Nat} (_ : LamX.ExtN H1 H') (hi : i < 60), SqL K H' (qs[i]'(by rw [R.len]; exact hi)) ((rowN i).map V.int) := fun {H' i} e hi => ext_seq e (SqL.of (R.row i _ (List.getElem?_eq_getElem _)).2)
    have ePs : ∀ {H' : Hp}, LamX.ExtN H1 H' → SqL K H' p (qs.map V.ref) := fun e => ext_seq e (SqL.of ep)
    have eAt : ∀ {i : Nat} (hi : i < 60), (qs.map V.ref)[i]? = some (.ref (qs[i]'(by rw [R.len]; exact hi))) := fun {i} hi => by rw [List.getElem?_map, List.getElem?_eq_getElem (by rw [R.len]; exact hi)]; rfl
    refine ⟨1, 8, rfl, ⟨by decide, by decide, by decide, by decide⟩, ?_⟩
    refine for_range (lo := 1) (n := 7) (fun i σ H' => (∃ x2 x3 x4 x5 x6 x7 x8 x9 x10 : Option V, σ = [some (.ref a), some (.ref p), x2, x3, x4, x5, x6, x7, x8, x9, x10]) ∧ LamX.ExtN H1 H' ∧ LamX.Tabs [(Pt, ("law" : Str) ++ (".<locals>." : Str) ++ ("<lambda>" : Str))] H') ⟨⟨_, _, _, _, _, _, _, _, _, rfl⟩, LamX.ExtN.refl _, T1⟩ ?_ ?_
    · rintro i σ H' hi ⟨⟨x2, x3, x4, x5, x6, x7, x8, x9, x10, rfl⟩, e1, t1⟩
      refine ⟨_, rfl, i + 1, congrArg (fun z => [V.int z]) (by omega), by omega, by omega, fun H2 p2 us ls s2 fp2 ep2 tu pm => ?_⟩
      obtain ⟨lo, ok⟩ := ords_ok (i + 1) (by omega)
      have lls : ls.length ≤ 5040 := by rw [pm.length_eq]; exact lo
      refine ⟨p2, rfl, ⟨_, SqL.of ep2⟩, fun D nD => ?_⟩
      refine lc_list (K := K) (xs := us.map V.ref) (fun j H3 => Same H2 H3 ∧ ∃ ds : List Addr, H3 D = some (.lst (ds.map V.ref)) ∧ TupsAt H3 ds ((ls.take j).filter upB)) ⟨same_new nD, [], upd_same, TupsAt.nil _⟩ (fun j H3 _ ⟨s3, _⟩ => SqL.of (s3 _ _ ep2)) ?_ ?_
      · rintro j x H3 hj ⟨s3, ds, eD, td⟩
        obtain ⟨t, htj, rfl⟩ := get_ref hj
        obtain ⟨l, hl', et⟩ := tu.get htj
        obtain ⟨ll, lb⟩ := ok l (pm.mem_iff.mp (List.mem_of_getElem? hl'))
        refine ⟨rfl, _, rfl, t, l, rfl, s3 _ _ et, by omega, by omega, fun H4 s4 => ?_⟩
        refine ⟨_, rfl, _, _, rfl, rfl, i, congrArg (fun z => [V.int z, V.str "u"]) (by omega), by omega, fun H5 s5 => ?_⟩
        have eb : decide (V.str (turnsN l (l.length - 1)) = V.str (upN i)) = upB l := by
          rw [← upB_eq l, show i = l.length - 1 by omega]
        refine ⟨rfl, upB l, congrArg V.bl eb, ?_⟩
        have s35 := (s3.trans s4).trans s5
        have eD5 := s5 _ _ (s4 _ _ eD)
        have td5 := (td.same s4).same s5
        cases hb : upB l with
        | false =>
          refine iteF ?_
          show Same H2 H5 ∧ ∃ ds : List Addr, H5 D = some (.lst (ds.map V.ref)) ∧ TupsAt H5 ds ((ls.take (j + 1)).filter upB)
          refine ⟨s35, ds, eD5, ?_⟩
          rw [take_more hl', List.filter_append, List.filter_cons_of_neg (by rw [hb]; decide), List.filter_nil, List.append_nil]
          exact td5
        | true =>
          refine iteT ?_
          refine ⟨_, rfl, _, eD5, small_n (by rw [List.length_map, td.len]; exact Nat.le_trans (List.length_filter_le _ _) (by rw [List.length_take]; omega)), same_set s35 nD, ds ++ [t], ?_, ?_⟩
          · rw [upd_same, List.map_append]; rfl
          · rw [take_more hl', List.filter_append, List.filter_cons_of_pos hb, List.filter_nil]
            exact (td5.add (TupsAt.one (s5 _ _ (s4 _ _ (s3 _ _ et))))).set eD5
      rintro H3 ⟨s3, ds, eD, td⟩
      rw [List.length_map, tu.len, List.take_length] at td
      have f3 := (e1.trans (Same.ext s2)).trans (Same.ext s3)
      refine ⟨_, rfl, _, rfl, _, _, rfl, rfl, p, _, _, _, rfl, rfl, ePs f3, at_of (j := i) (by omega) (eAt (by omega)), ?_⟩
      refine ⟨_, rfl, _, _, rfl, rfl, 1, 1 + (i : Int) + 1, rfl, ⟨by decide, by decide, by omega, by omega⟩, fun D2 nD2 => ?_⟩
      rw [show (1 + (i : Int) + 1 - 1).toNat = i + 1 by omega]
      refine lc_range (lo := 1) (n := i + 1) (fun f H4 => Same H3 H4 ∧ H4 D2 = some (.lst (((List.range f).map fun f => (begins ls ((f + 1 : Nat) : Int) : Int)).map V.int))) ⟨same_new nD2, upd_same⟩ ?_ ?_
      · rintro f H4 hf ⟨s4, eD2⟩
        refine ⟨rfl, _, rfl, D, rfl, ⟨_, SqL.of (s4 _ _ eD)⟩, fun D3 nD3 => ?_⟩
        refine lc_list (K := K) (xs := ds.map V.ref) (fun j H5 => Same H4 H5 ∧ ∃ es : List Addr, H5 D3 = some (.lst (es.map V.ref)) ∧ es.length = (((ls.filter upB).take j).filter fun l => decide (l.getD 0 0 = ((f + 1 : Nat) : Int))).length) ⟨same_new nD3, [], upd_same, rfl⟩ (fun j H5 _ ⟨s5, _⟩ => SqL.of (s5 _ _ (s4 _ _ eD))) ?_ ?_
        · rintro j x H5 hj ⟨s5, es, eD3, le⟩
          obtain ⟨t, htj, rfl⟩ := get_ref hj
          obtain ⟨l, hl', et⟩ := td.get htj
          obtain ⟨ll, lb⟩ := ok l (pm.mem_iff.mp (List.mem_filter.mp (List.mem_of_getElem? hl')).1)
          have et5 := s5 _ _ (s4 _ _ et)
          have eb : decide (V.int (l.getD 0 0) = V.int (1 + (f : Int))) = decide (l.getD 0 0 = ((f + 1 : Nat) : Int)) := by
            rw [show (1 + (f : Int)) = ((f + 1 : Nat) : Int) by omega]
            exact decide_eq_decide.mpr ⟨V.int.inj, congrArg V.int⟩
          refine ⟨rfl, _, rfl, t, _, _, _, rfl, rfl, SqT.of et5, at_of (j := 0) rfl (gI (by omega)), _, rfl, rfl, decide (l.getD 0 0 = ((f + 1 : Nat) : Int)), congrArg V.bl eb, ?_⟩
          cases hb : decide (l.getD 0 0 = ((f + 1 : Nat) : Int)) with
          | false =>
            refine iteF ?_
            show Same H4 H5 ∧ ∃ es : List Addr, H5 D3 = some (.lst (es.map V.ref)) ∧ es.length = (((ls.filter upB).take (j + 1)).filter fun l => decide (l.getD 0 0 = ((f + 1 : Nat) : Int))).length
            refine ⟨s5, es, eD3, ?_⟩
            rw [take_more hl', List.filter_append, List.filter_cons_of_neg (by rw [hb]; decide), List.filter_nil, List.append_nil]
            exact le
          | true =>
            refine iteT ?_
            refine ⟨_, rfl, _, eD3, small_n (by rw [List.length_map, le]; exact Nat.le_trans (List.length_filter_le _ _) (by rw [List.length_take]; exact Nat.le_trans (Nat.min_le_right _ _) (Nat.le_trans (List.length_filter_le _ _) (by omega)))), same_set s5 nD3, es ++ [t], ?_, ?_⟩
            · rw [upd_same, List.map_append]; rfl
            · rw [take_more hl', List.filter_append, List.filter_cons_of_pos (p := fun l : List Int => decide (l.getD 0 0 = ((f + 1 : Nat) : Int))) hb, List.filter_nil, List.length_append, List.length_append, le]; rfl
        rintro H5 ⟨s5, es, eD3, le⟩
        rw [List.length_map, td.len, List.take_length] at le
        refine ⟨D3, _, rfl, .inl (SqL.of eD3), _, s5 _ _ eD2, small_n (by rw [List.length_map, List.length_map, List.length_range]; omega), same_set (s4.trans s5) nD2, ?_⟩
        rw [upd_same, List.range_succ, List.map_append, List.map_append, List.length_map, le]; rfl
      rintro H4 ⟨s4, eD2⟩
      have er : ((List.range (i + 1)).map fun f => (begins ls ((f + 1 : Nat) : Int) : Int)) = rowN i := by
        rw [begins_ok i hi]
        exact List.map_congr_left fun f _ => by rw [begins_perm pm]
      rw [er] at eD2
      have f4 := f3.trans (Same.ext s4)
      refine ne_same (dp_list (eRow f4 (by omega))) (dp_list (SqL.of eD2)) (shaped_ints _) (eqv_ints _) ⟨false, rfl, iteF ?_⟩
      exact ⟨⟨_, _, _, _, _, _, _, _, _, rfl⟩, f4, tabs_same t1 ((s2.trans s3).trans s4)⟩
    · rintro σ H0 ⟨⟨x2, x3, x4, x5, x6, x7, x8, x9, x10, rfl⟩, e0, t0⟩
      refine ⟨_, rfl, a, _, rfl, .inl (ext_seq e0 (s1.seq hS)), _, _, rfl, _, _, rfl, _, rfl, ?_, ?_, ?_⟩
      · rw [List.length_map]; split <;> (try split) <;> omega
      · rw [List.length_map]; split <;> (try split) <;> omega
      refine for_range (lo := 0) (n := _) (fun i σ H' => (∃ x2 x3 x4 x5 x6 x7 x8 x9 x10 : Option V, σ = [some (.ref a), some (.ref p), x2, x3, x4, x5, x6, x7, x8, x9, x10]) ∧ LamX.ExtN H1 H' ∧ LamX.Tabs [(Pt, ("law" : Str) ++ (".<locals>." : Str) ++ ("<lambda>" : Str))] H') ⟨⟨_, _, _, _, _, _, _, _, _, rfl⟩, e0, t0⟩ ?_ ?_
      · rintro i σ H' hi ⟨⟨x2, x3, x4, x5, x6, x7, x8, x9, x10, rfl⟩, e1, t1⟩
        refine ⟨_, rfl, _, rfl, a, ns, i, ?_, ext_seq e1 (s1.seq hS), fun cv => ?_⟩
        · rw [Int.zero_add]; rfl
        refine ⟨_, rfl, cv, 0, 60, rfl, by decide, by decide, by decide, by decide, fun r0 a0 a1 => ⟨_, _, rfl, rfl, ?_⟩⟩
        refine ⟨_, rfl, cv, 1, 12, rfl, by decide, by decide, by decide, by decide, fun r1 b0 b1 => ⟨_, _, rfl, rfl, sz 4, fun l nl => ?_⟩⟩
        have e2 := e1.trans (Same.ext (same_new (o := .lst [.int 1, .int 60, .int (1 + r0), .int (1 + r1)]) nl))
        have t2 := tabs_same t1 (same_new (o := .lst [.int 1, .int 60, .int (1 + r0), .int (1 + r1)]) nl)
        refine ⟨l, rfl, ⟨_, SqL.of upd_same⟩, for_list (xs := [.int 1, .int 60, .int (1 + r0), .int (1 + r1)]) (fun i σ H3 => (∃ x2 x3 x4 x6 x7 x8 x9 x10 : Option V, σ = [some (.ref a), some (.ref p), x2, x3, x4, some (.int cv), x6, x7, x8, x9, x10]) ∧ LamX.ExtN (upd H' l (.lst [.int 1, .int 60, .int (1 + r0), .int (1 + r1)])) H3 ∧ LamX.Tabs [(Pt, ("law" : Str) ++ (".<locals>." : Str) ++ ("<lambda>" : Str))] H3) ⟨⟨_, _, _, _, _, _, _, _, rfl⟩, LamX.ExtN.refl _, t2⟩ (fun i σ H3 _ ⟨_, e, _⟩ => ext_seq e (SqL.of upd_same)) ?_ ?_⟩
        · rintro i x σ H3 hx ⟨⟨x2, x3, x4, x6, x7, x8, x9, x10, rfl⟩, e3, t3⟩
          obtain ⟨n, rfl, hn⟩ := numbers_of a0 a1 b0 b1 hx
          have f3 := e2.trans e3
          refine ⟨2, rfl, by decide, by decide, for_range (lo := 0) (n := 2) (fun i σ H6 => (∃ x3 x4 x6 x7 x8 x9 x10 : Option V, σ = [some (.ref a), some (.ref p), some (.int ((n + 1 : Nat) : Int)), x3, x4, some (.int cv), x6, x7, x8, x9, x10]) ∧ LamX.ExtN H3 H6 ∧ LamX.Tabs [(Pt, ("law" : Str) ++ (".<locals>." : Str) ++ ("<lambda>" : Str))] H6) ⟨⟨_, _, _, _, _, _, _, rfl⟩, LamX.ExtN.refl _, t3⟩ ?_ ?_⟩
          · rintro i σ H6 hi ⟨⟨x3, x4, x6, x7, x8, x9, x10, rfl⟩, e6, t6⟩
            refine ⟨_, rfl, _, true, rfl, thing_int _, fun c => absurd ⟨_, rfl, by omega, by omega⟩ c, fun n' en hn2 H7 f s7 ff ef => ?_⟩
            have en := V.int.inj en
            obtain rfl : n = n' := by omega
            refine ⟨_, rfl, _, _, _, _, _, rfl, .ty "list", .base (.lst ef), kit_ll, _, rfl, iteF ?_⟩
            have f7 := (f3.trans e6).trans (Same.ext s7)
            refine ⟨_, rfl, _, rfl, _, rfl, _, _, rfl, rfl, p, _, _, _, rfl, rfl, ePs f7, at_of (j := n) (by omega) (eAt hn), ?_⟩
            refine ne_same (dp_list (SqL.of ef)) (dp_list (eRow f7 hn)) (shaped_ints _) (eqv_ints _) ⟨false, rfl, iteF ?_⟩
            -- True in [isinstance(..) ..]
            refine ⟨_, rfl, f, rfl, ⟨_, SqL.of ef⟩, fun L nL => ?_⟩
            refine lc_list (K := K) (xs := (rowN n).map V.int) (fun i H9 => Same H7 H9 ∧ H9 L = some (.lst ((List.replicate i false).map V.bl))) ⟨same_new nL, upd_same⟩ (fun i H9 _ ⟨s9, _⟩ => s9.seq (SqL.of ef)) ?_ ?_
            · rintro i x H9 hx ⟨s9, eL⟩
              obtain ⟨z, hz, rfl⟩ := get_ints hx
              have hlt := (List.getElem?_eq_some_iff.mp hz).1
              rw [rowN_len] at hlt
              refine ⟨rfl, _, rfl, _, _, _, _, _, rfl, .ty "bool", .base (.int _), kit_ib, _, eL, small_n (by rw [List.length_map, List.length_replicate]; omega), same_set s9 nL, ?_⟩
              rw [upd_same, List.replicate_succ', List.map_append]; rfl
            rintro H9 ⟨s9, eL⟩
            refine ⟨L, _, rfl, .inl (SqL.of eL), rfl, flat_bl _, ?_⟩
            refine ⟨false, congrArg V.bl (in_false _), iteF ?_⟩
            have ef9 := s9 _ _ ef
            have s69 := s7.trans s9
            refine ⟨_, rfl, .inl ⟨rfl, _, SqL.of ef9⟩, f, _, _, rfl, rfl, ef9, small_n (by rw [List.length_map, rowN_len]; omega), ?_⟩
            exact ⟨⟨_, _, _, _, _, _, _, rfl⟩, e6.trans (ext_set (Same.ext s69) ff), tabs_upd (tabs_same t6 s69) ef9⟩
          · rintro σ H6 ⟨⟨x3, x4, x6, x7, x8, x9, x10, rfl⟩, e6, t6⟩
            exact ⟨⟨_, _, _, _, _, _, _, _, rfl⟩, e3.trans e6, t6⟩
        · rintro σ H3 ⟨⟨x2, x3, x4, x6, x7, x8, x9, x10, rfl⟩, e3, t3⟩
          refine ⟨_, rfl, cv, 2, 1, 60, rfl, by decide, by decide, by decide, by decide, by decide, by decide, fun bad z H4 s4 hT hbad => ?_⟩
          refine ⟨tabs_same t3 s4, fun H6 e6 t6 => ?_⟩
          refine ⟨_, rfl, _, z, rfl, thing_ext e6 hT, fun _ => ?_, fun n' en hn2 => absurd ⟨_, en, by omega, by omega⟩ hbad⟩
          refine ⟨rfl, _, 1, "number", rfl, T.j_NoNumber, rfl, fun H7 s7 => ?_⟩
          dsimp only [tC]
          refine neS_same ?_
          refine ⟨false, rfl, iteF ?_⟩
          exact ⟨⟨_, _, _, _, _, _, _, _, _, rfl⟩, (((e2.trans e3).trans (Same.ext s4)).trans e6).trans (Same.ext s7), tabs_same t6 s7⟩
      · rintro σ H2 ⟨⟨x2, x3, x4, x5, x6, x7, x8, x9, x10, rfl⟩, e2, t2⟩
        refine ⟨_, true, rfl, thing_int _, fun c => absurd ⟨_, rfl, by omega, by omega⟩ c, fun n' en hn2 H4 f s4 ff ef => ?_⟩
        have en := V.int.inj en
        obtain rfl : n' = 0 := by omega
        refine ⟨sz 1, fun w nw => ?_⟩
        refine eq_same (d := intsD [1]) (dp_list (SqL.of ((same_new nw) _ _ ef))) (dp_list (ns := [1]) (SqL.of upd_same)) (shaped_ints _) (eqv_ints _) ?_
        refine ⟨true, rfl, iteT ?_⟩
        refine ⟨_, true, rfl, thing_int _, fun c => absurd ⟨_, rfl, by omega, by omega⟩ c, fun n' en hn2 H5 g s5 gf eg => ?_⟩
        have en := V.int.inj en
        obtain rfl : n' = 3 := by omega
        refine ⟨sz 4, fun w2 nw2 => ?_⟩
        have r3 : rowN 3 = [2, 2, 1, 0] := by decide
        rw [r3] at eg
        exact eq_same (d := intsD [2, 2, 1, 0]) (dp_list (SqL.of ((same_new nw2) _ _ eg))) (dp_list (ns := [2, 2, 1, 0]) (SqL.of upd_same)) (shaped_ints _) (eqv_ints _) (q _)
end
def D_is_whole : He.DefD := ⟨("is_whole", none), "is_whole", "is_whole", defArgs S_is_whole, defBody S_is_whole, defScope S_is_whole, [], []⟩
def D_need_number : He.DefD := ⟨("need_number", none), "need_number", "need_number", defArgs S_need_number, defBody S_need_number, defScope S_need_number, [], []⟩
def D_row_behind : He.DefD := ⟨("row_behind", none), "row_behind", "row_behind", defArgs S_row_behind, defBody S_row_behind, defScope S_row_behind, [], []⟩
def D_rows_to : He.DefD := ⟨("rows_to", none), "rows_to", "rows_to", defArgs S_rows_to, defBody S_rows_to, defScope S_rows_to, [], []⟩
def D_row : He.DefD := ⟨("row", none), "row", "row", defArgs S_row, defBody S_row, defScope S_row, [], []⟩
def D_law_cell_at : He.DefD := ⟨("_law_cell_at", none), "_law_cell_at", "_law_cell_at", defArgs S_law_cell_at, defBody S_law_cell_at, defScope S_law_cell_at, [], []⟩
def D_law_draw : He.DefD := ⟨("_law_draw", none), "_law_draw", "_law_draw", defArgs S_law_draw, defBody S_law_draw, defScope S_law_draw, [], []⟩
def D_law_turns_of : He.DefD := ⟨("_law_turns_of", none), "_law_turns_of", "_law_turns_of", defArgs S_law_turns_of, defBody S_law_turns_of, defScope S_law_turns_of, [], []⟩
def D_law_by_turns : He.DefD := ⟨("_law_by_turns", none), "_law_by_turns", "_law_by_turns", defArgs S_law_by_turns, defBody S_law_by_turns, defScope S_law_by_turns, [], []⟩
def D_law_orders : He.DefD := ⟨("_law_orders", none), "_law_orders", "_law_orders", defArgs S_law_orders, defBody S_law_orders, defScope S_law_orders, [], []⟩
def D_law_rows : He.DefD := ⟨("_law_rows", none), "_law_rows", "_law_rows", defArgs S_law_rows, defBody S_law_rows, defScope S_law_rows, [], []⟩
def D_law_no_number : He.DefD := ⟨("_law_no_number", none), "_law_no_number", "_law_no_number", defArgs S_law_no_number, defBody S_law_no_number, defScope S_law_no_number, [], []⟩
def D_law_class : He.DefD := ⟨("_law_class", none), "_law_class", "_law_class", defArgs S_law_class, defBody S_law_class, defScope S_law_class, [], []⟩
def D_law_refused : He.DefD := ⟨("_law_refused", none), "_law_refused", "_law_refused", defArgs S_law_refused, defBody S_law_refused, defScope S_law_refused, [], []⟩
def D_law : He.DefD := ⟨("law", none), "law", "law", defArgs S_law, defBody S_law, defScope S_law, [], []⟩
def fn : List He.DefD := [D_is_whole, D_need_number, D_row_behind, D_rows_to, D_row, D_law_cell_at, D_law_draw, D_law_turns_of, D_law_by_turns, D_law_orders, D_law_rows, D_law_no_number, D_law_class, D_law_refused, D_law]
def fa : List He.Fa := [.glo "is_whole", .glo "need_number", .glo "row_behind", .glo "rows_to", .glo "row", .glo "_law_cell_at", .glo "_law_draw", .glo "_law_turns_of", .glo "_law_by_turns", .glo "_law_orders", .glo "_law_rows", .glo "_law_no_number", .glo "_law_class", .glo "_law_refused", .glo "law", .free "isinstance", .free "int", .free "bool", .free "len", .free "range", .free "str", .free "max", .free "min", .free "list", .free "sorted", .free "ValueError", .int "MOST_ROWS" 60, .glo "TurnError", .glo "NoOrder", .glo "NoNumber", .glo "NoRow", .glo "NotUpDown", .glo "NoPattern", .glo "NoTree", .glo "NoLoose", .glo "NoRing", .glo "NoFraction", .glo "NoText", .glo "NoDeed", .glo "NoLine", .exc "NoNumber"]
def ex (K : PySem.W.Frag) : Bool := ([(1, "NoNumber")].all fun q => classB K q.1 q.2)
def tf : List He.Defn := [("law", none)]
theorem txt_of {w : World} {h : Heap} {K : PySem.W.Frag} {mg : Str → Option Value} (X : K.In h) (G : h.Ns mainGlobals mg) (c : He.SaysX fa fn [] tf ex w h K) : Txt K mg :=
  { d_is_whole := c.t.d.def_ 0 (d := D_is_whole) rfl, g_is_whole := He.glo_ok X G (c.t.d.fact 0 (f := .glo "is_whole") rfl),
    d_need_number := c.t.d.def_ 1 (d := D_need_number) rfl, g_need_number := He.glo_ok X G (c.t.d.fact 1 (f := .glo "need_number") rfl),
    d_row_behind := c.t.d.def_ 2 (d := D_row_behind) rfl, g_row_behind := He.glo_ok X G (c.t.d.fact 2 (f := .glo "row_behind") rfl),
    d_rows_to := c.t.d.def_ 3 (d := D_rows_to) rfl, g_rows_to := He.glo_ok X G (c.t.d.fact 3 (f := .glo "rows_to") rfl),
    d_row := c.t.d.def_ 4 (d := D_row) rfl, g_row := He.glo_ok X G (c.t.d.fact 4 (f := .glo "row") rfl),
    d_law_cell_at := c.t.d.def_ 5 (d := D_law_cell_at) rfl, g_law_cell_at := He.glo_ok X G (c.t.d.fact 5 (f := .glo "_law_cell_at") rfl),
    d_law_draw := c.t.d.def_ 6 (d := D_law_draw) rfl, g_law_draw := He.glo_ok X G (c.t.d.fact 6 (f := .glo "_law_draw") rfl),
    d_law_turns_of := c.t.d.def_ 7 (d := D_law_turns_of) rfl, g_law_turns_of := He.glo_ok X G (c.t.d.fact 7 (f := .glo "_law_turns_of") rfl),
    d_law_by_turns := c.t.d.def_ 8 (d := D_law_by_turns) rfl, g_law_by_turns := He.glo_ok X G (c.t.d.fact 8 (f := .glo "_law_by_turns") rfl),
    d_law_orders := c.t.d.def_ 9 (d := D_law_orders) rfl, g_law_orders := He.glo_ok X G (c.t.d.fact 9 (f := .glo "_law_orders") rfl),
    d_law_rows := c.t.d.def_ 10 (d := D_law_rows) rfl, g_law_rows := He.glo_ok X G (c.t.d.fact 10 (f := .glo "_law_rows") rfl),
    d_law_no_number := c.t.d.def_ 11 (d := D_law_no_number) rfl, g_law_no_number := He.glo_ok X G (c.t.d.fact 11 (f := .glo "_law_no_number") rfl),
    d_law_class := c.t.d.def_ 12 (d := D_law_class) rfl, g_law_class := He.glo_ok X G (c.t.d.fact 12 (f := .glo "_law_class") rfl),
    d_law_refused := c.t.d.def_ 13 (d := D_law_refused) rfl, g_law_refused := He.glo_ok X G (c.t.d.fact 13 (f := .glo "_law_refused") rfl),
    d_law := c.t.d.def_ 14 (d := D_law) rfl, g_law := He.glo_ok X G (c.t.d.fact 14 (f := .glo "law") rfl),
    n_isinstance := He.free_ok X G (c.t.d.fact 15 (f := .free "isinstance") rfl),
    n_int := He.free_ok X G (c.t.d.fact 16 (f := .free "int") rfl),
    n_bool := He.free_ok X G (c.t.d.fact 17 (f := .free "bool") rfl),
    n_len := He.free_ok X G (c.t.d.fact 18 (f := .free "len") rfl),
    n_range := He.free_ok X G (c.t.d.fact 19 (f := .free "range") rfl),
    n_str := He.free_ok X G (c.t.d.fact 20 (f := .free "str") rfl),
    n_max := He.free_ok X G (c.t.d.fact 21 (f := .free "max") rfl),
    n_min := He.free_ok X G (c.t.d.fact 22 (f := .free "min") rfl),
    n_list := He.free_ok X G (c.t.d.fact 23 (f := .free "list") rfl),
    n_sorted := He.free_ok X G (c.t.d.fact 24 (f := .free "sorted") rfl),
    n_ValueError := He.free_ok X G (c.t.d.fact 25 (f := .free "ValueError") rfl),
    c_MOST_ROWS := He.int_ok X G (c.t.d.fact 26 (f := .int "MOST_ROWS" 60) rfl),
    g_TurnError := He.glo_ok X G (c.t.d.fact 27 (f := .glo "TurnError") rfl),
    g_NoOrder := He.glo_ok X G (c.t.d.fact 28 (f := .glo "NoOrder") rfl),
    g_NoNumber := He.glo_ok X G (c.t.d.fact 29 (f := .glo "NoNumber") rfl),
    g_NoRow := He.glo_ok X G (c.t.d.fact 30 (f := .glo "NoRow") rfl),
    g_NotUpDown := He.glo_ok X G (c.t.d.fact 31 (f := .glo "NotUpDown") rfl),
    g_NoPattern := He.glo_ok X G (c.t.d.fact 32 (f := .glo "NoPattern") rfl),
    g_NoTree := He.glo_ok X G (c.t.d.fact 33 (f := .glo "NoTree") rfl),
    g_NoLoose := He.glo_ok X G (c.t.d.fact 34 (f := .glo "NoLoose") rfl),
    g_NoRing := He.glo_ok X G (c.t.d.fact 35 (f := .glo "NoRing") rfl),
    g_NoFraction := He.glo_ok X G (c.t.d.fact 36 (f := .glo "NoFraction") rfl),
    g_NoText := He.glo_ok X G (c.t.d.fact 37 (f := .glo "NoText") rfl),
    g_NoDeed := He.glo_ok X G (c.t.d.fact 38 (f := .glo "NoDeed") rfl),
    g_NoLine := He.glo_ok X G (c.t.d.fact 39 (f := .glo "NoLine") rfl),
    x_NoNumber := (He.exc_ok (c.t.d.fact 40 (f := .exc "NoNumber") rfl)).1, k_NoNumber := (He.exc_ok (c.t.d.fact 40 (f := .exc "NoNumber") rfl)).2.1, b_NoNumber := (He.exc_ok (c.t.d.fact 40 (f := .exc "NoNumber") rfl)).2.2.1, t_NoNumber := (He.exc_ok (c.t.d.fact 40 (f := .exc "NoNumber") rfl)).2.2.2, j_NoNumber := classB_ok (List.all_eq_true.mp (show ([(1, "NoNumber")].all fun q => classB K q.1 q.2) = true from c.more) (1, "NoNumber") (by decide)) }
abbrev R : PySem.W.OpenRow := PySem.W.OpenLaw.row PySem.Challenge.rw_upanddowns_k11_rows_of_the_triangle
abbrev hk : PySem.W.Hook := He.hookX 4 fa fn [] tf ex
def ob (s : PySem.W.SharedT) : He.AlX := He.obsX 4 fa fn [] tf ex (HandSHeadRun.getT s)
theorem ob_eq (s : PySem.W.SharedT) : ob s = hk.obs s.abs := He.obsX_eq (HandSHeadRun.getT_eq s)
def loose : List PySem.Str := (["TurnError", "NoOrder", "NoNumber", "NoRow", "NotUpDown", "NoPattern", "NoTree", "NoLoose", "NoRing", "NoFraction", "NoText", "NoDeed", "NoLine", "is_whole", "need_number", "row_behind", "rows_to", "row", "_law_cell_at", "_law_draw", "_law_turns_of", "_law_by_turns", "_law_orders", "_law_rows", "_law_no_number", "_law_class", "_law_refused", "MOST_ROWS"] : List PySem.Str)
theorem run (w : World) : HandSHeadRun.RunEq R (PySem.W.view R.prog [32]) hk ob 4000 loose w := by
  intro os
  kernel_rfl
theorem law_at {w : World} {h : Heap} {K : PySem.W.Frag} {mg : Str → Option Value} {fa1 : Addr} (X : K.In h) (G : h.Ns mainGlobals mg) (hfa : mg "law" = some (.ref fa1)) (c : He.SaysX fa fn [] tf ex w h K) : LamX.LawAtS PySem.Challenge.rw_upanddowns_k11_rows_of_the_triangle w K CX0 8 63 "_law_script" mg fa1 h := by
  have T := txt_of X G c
  obtain ⟨fd, F⟩ := T.d_law
  have e := hfa.symm.trans T.g_law
  cases e
  refine ⟨fd, [He.cT K ("law", none)], spLaw K (He.cT K ("law", none)).2, fun p hp => ?_, fun p hp => ?_, fun p hp => ?_, fun s u => F.bindsA (ps := ["_law_script"]) (fun _ _ _ _ _ _ us hl => match us, hl with | [_], _ => rfl) s [u] rfl, fun H a ns hl _ hT hS => ⟨a, ns, rfl, hl, hS, hT _ List.mem_cons_self, fun _ => rfl⟩, fun base _ _ TB => ok_law T F (TB _ List.mem_cons_self)⟩
  · rw [List.mem_singleton.mp hp]; exact c.empty _ List.mem_cons_self
  · rw [List.mem_singleton.mp hp]; exact c.out _ List.mem_cons_self
  · rw [List.mem_singleton.mp hp]; exact PySem.W.codeHd_of_K X (c.hd _ List.mem_cons_self)
end K11
open PySem PySem.W PySem.Calls PyProof.Rows
theorem PySem.Challenge.cw_upanddowns_k11_rows_of_the_triangle_holds : PySem.Challenge.rw_upanddowns_k11_rows_of_the_triangle.Holds := by
  w_on; o_law
  refine HandSHeadRun.head_any (r := OpenLaw.row PySem.Challenge.rw_upanddowns_k11_rows_of_the_triangle) (q := view (OpenLaw.row PySem.Challenge.rw_upanddowns_k11_rows_of_the_triangle).prog [32]) (H := K11.hk) (ob := K11.ob) (M := 4000) (loose := K11.loose) (d := HandSHeadRun.topDef (OpenLaw.row PySem.Challenge.rw_upanddowns_k11_rows_of_the_triangle).prog 32) (kwd := []) K11.ob_eq
    (by kernel_rfl) (fun s => by kernel_rfl) K11.run (by kernel_rfl) (by kernel_rfl) (by kernel_rfl) (by rfl) (by first | assumption | decide +kernel) (by decide +kernel) ⟨rfl, rfl, rfl, rfl, rfl, by decide +kernel⟩ ?hw ?hc
  case hw => w_witness2
  case hc =>
    refine LamX.walk_ofTsE (l := PySem.Challenge.rw_upanddowns_k11_rows_of_the_triangle) (n := 63) (k := 8) (x := "_law_script") (CX := fun _ => L2.CX0) rfl (by decide) (by kernel_rfl) ⟨rfl, by decide, by decide⟩ ?F (fun _ _ _ _ _ z => z)
    intro w mg fa h Y G hmg0
    obtain ⟨K, KX, c⟩ := Y
    have hmg : mg ("law" : PySem.Str) = some (.ref fa) := by
      have e : (HandSHeadRun.topDef (OpenLaw.row PySem.Challenge.rw_upanddowns_k11_rows_of_the_triangle).prog 32).name = ("law" : PySem.Str) := by kernel_rfl
      rw [← e]
      exact hmg0
    exact ⟨K, KX, K11.law_at KX G hmg c⟩

