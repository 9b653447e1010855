import PyProof.Rows.All
import Wide.All
import OpenK.AllK
import Wide.FinOn
import PyProof.EqAt
import PyProof.EqKinds
import PyProof.TupleCall
import KE.KLam
import HandS.ForMost
import HandS.Exc
import HandS.TryOnly
import HandS.ExcOwn
import HandS.WordsExc
import HandS.Lambda
import HandS.HotCalls
import HandS.IsInst
import HandS.ExcIs
import HandS.RaiseMore
import HandS.FStr
import HandS.Style
import HandS.Wide
import HandS.Defaults
import HandS.CallLocal
import HandS.Head2
import HandS.HeadHook4
import HandS.HeadWalk
import HandS.SortInts
import HandS.TupSets
import HandS.TupAny
import HandS.AnyAll
import HandS.JoinGen
import PyProof.GenCompD
import HandS.Nested
import HandS.Strs
import PyProof.TupleOfSeq
import HandS.SetFor
import HandS.Conv
import KE.KRevSl
import KE.GoesZip
import KE.GoesMore
import HandS.Zip
import HandS.Text
import PySem.Challenge.RW_upanddowns_k08_whole_orders
set_option Elab.async false
set_option linter.all false
set_option maxRecDepth 100000
set_option maxHeartbeats 2000000
namespace Up
open PySem PySem.Spec PyProof.Rows L2
/-! ### a def of the text, told by its name -/
structure DefOk (P : Program) (w : World) (K : PySem.W.Frag) (mg : Str → Option Value) (base : Heap) (CX : CXT) (k : Nat) (x : Str) (ps : List Str) (sp : Sp) : Prop where
  gl : mg x = some (.ref (He.ga K x))
  kp : PySem.W.keepIn K (.ref (He.ga K x)) = true
  ex : ∃ fd, FnOk P w K mg base CX k (He.ga K x) fd ps sp ∧ Binds K fd ps []
theorem pe_callD {X : Cx} {CX : CXT} {k j : Nat} {x : Str} {ps : List Str} {sp : Sp} {E : XK} {e : Expr} {es : List Expr} {t : TA} {p pos : Pos} (D : DefOk X.prog X.w X.K X.mg X.base CX k x ps sp) (hr : Room j X.A) (hg : Gl X x) (hx : Passes CX X E) (ha : PA X (e :: es) t)
    (hj : k ≤ j := by decide) (hdb : (x == ("__debug__" : Str)) = false := by decide) (he : starEach (e :: es) X.env = (false, eval e X.env) :: starEach es X.env := by rfl) (hpl : (backTo pos (starEach es X.env)).any (·.1) = false := by rfl) :
    PE X (.Call (.Name x p) (e :: es) [] pos) (tCall sp [] E t) := by
  obtain ⟨fd, F, b⟩ := D.ex
  exact pe_call F (hr.mono hj) hg D.gl D.kp b .nil hx ha hdb he hpl
abbrev FnT (K : PySem.W.Frag) (x : Str) (st : Stmt) (fd : FuncData) : Prop := FunD K x x (defArgs st) (defBody st) (defScope st) [] [] (He.ga K x) fd
theorem def_of {P : Program} {w : World} {K : PySem.W.Frag} {mg : Str → Option Value} {base : Heap} {CX : CXT} {k : Nat} {x : Str} {ps : List Str} {sp : Sp} {st : Stmt} (d : ∃ fd, FnT K x st fd) (g : mg x = some (.ref (He.ga K x)))
    (hb : ∀ (kV doc pm : Value) (an : Option Addr) (cdv ct : Value) (us : List Value), us.length = ps.length → bindArgs (PySem.W.fnOf x x (defArgs st) (defBody st) (defScope st) .none kV doc pm an cdv ct) ⟨us, []⟩ = pure (ps.zip us))
    (h : ∀ fd, FnT K x st fd → FnOk P w K mg base CX k (He.ga K x) fd ps sp) : DefOk P w K mg base CX k x ps sp := by
  obtain ⟨fd, F⟩ := d
  exact ⟨g, F.kp, fd, h fd F, F.bindsN hb⟩
theorem passOut {X : Cx} {E : XK} (tk : Takes X (fun cls d _ H => E cls d H)) : Passes (L2.CX X.prog X.w) X E := passes_call tk fun _ _ _ _ h => h
theorem sz (n : Nat) (h : n ≤ 1000 := by decide) : n ≤ sizeLine := Nat.le_trans h (by decide)
theorem szl (n : Nat) (h : n ≤ 1000 := by decide) : n < sizeLine := Nat.lt_of_le_of_lt h (by decide)
/-! ### rules with the written part K told apart (for blocks, whose context is a term) -/
def rLenQ (K : PySem.W.Frag) : List V → Hp → VK → Prop := fun xs H Q => ∃ p ys, xs = [.ref p] ∧ (SqL K H p ys ∨ SqT K H p ys) ∧ Q (.int ys.length) H
theorem lenK {X : Cx} (K : PySem.W.Frag) (h : X.K = K := by rfl) : CallR X (.builtin "len") (rLenQ K) := by subst h; exact call_len_seq
theorem ixLK {X : Cx} (K : PySem.W.Frag) (h : X.K = K := by rfl) : IxR X (rIxL K) := by subst h; exact ix_list
theorem ixTK {X : Cx} (K : PySem.W.Frag) (h : X.K = K := by rfl) : IxR X (rIxT K) := by subst h; exact ix_tup
theorem revLK {X : Cx} (K : PySem.W.Frag) {e : Expr} {te : TE} {k : Nat} {p1 p2 p3 pos : Pos} (he : PE X e te) (h : X.K = K := by rfl) : PE X (.Subscript e (.Slice none none (some (.UnaryOp .USub (.Constant (.int 1) k p1) p2)) p3) pos) (tRevL K te) := by subst h; exact pe_revL he
theorem slLK {X : Cx} (K : PySem.W.Frag) (h : X.K = K := by rfl) : SlR X (rSlL K) := by subst h; exact sl_list
theorem slTK {X : Cx} (K : PySem.W.Frag) (h : X.K = K := by rfl) : SlR X (rSlT K) := by subst h; exact sl_tup
theorem isiK {X : Cx} (K : PySem.W.Frag) (h : X.K = K := by rfl) : CallR X (.builtin "isinstance") (rIsi K) := by subst h; exact call_isi
theorem sumK {X : Cx} (K : PySem.W.Frag) (hc : X.calm = true) (h : X.K = K := by rfl) : CallR X (.builtin "sum") (rSum K) := by subst h; exact cr_sum hc
theorem anyK {X : Cx} (K : PySem.W.Frag) (hc : X.calm = true) (h : X.K = K := by rfl) : CallR X (.builtin "any") (rAny K) := by subst h; exact cr_any hc
theorem allK {X : Cx} (K : PySem.W.Frag) (hc : X.calm = true) (h : X.K = K := by rfl) : CallR X (.builtin "all") (rAll K) := by subst h; exact cr_all hc
theorem eqDK {X : Cx} (K : PySem.W.Frag) (hu : X.A.units + 64 < cLine) (h : X.K = K := by rfl) : OpR X (compareOp .Eq) (rEqD K) := by subst h; exact op_eqD hu
theorem neDK {X : Cx} (K : PySem.W.Frag) (hu : X.A.units + 64 < cLine) (h : X.K = K := by rfl) : OpR X (compareOp .NotEq) (rNeD K) := by subst h; exact op_neD hu
theorem inK {X : Cx} (K : PySem.W.Frag) (h : X.K = K := by rfl) : OpR X (compareOp .In) (rIn K false) := by subst h; exact op_in_seq
theorem notInK {X : Cx} (K : PySem.W.Frag) (h : X.K = K := by rfl) : OpR X (compareOp .NotIn) (rIn K true) := by subst h; exact op_notIn_seq
theorem catTK {X : Cx} (K : PySem.W.Frag) (h : X.K = K := by rfl) : OpR X (binaryOp .Add) (rCatT K) := by subst h; exact op_catT
/-! ### heaps -/
theorem same_new {H : Hp} {p : Addr} {o : HO} (h : H p = none) : Same H (upd H p o) := fun b x e => by
  rw [upd_ne (ne_of_none e h)]; exact e
theorem Same.ext {H H' : Hp} (s : Same H H') : LamX.ExtN H H' := fun b o h _ => s b o h
theorem ext_seq {K : PySem.W.Frag} {H H' : Hp} {a : Addr} {xs : List V} (e : LamX.ExtN H H') (h : SqL K H a xs) : SqL K H' a xs := by
  rcases h with (h | ⟨o, h⟩) | h
  · exact .inl (.inl (e _ _ h (fun _ z => by cases z)))
  · exact .inl (.inr ⟨o, e _ _ h (fun _ z => by cases z)⟩)
  · exact .inr h
theorem ext_set {H H' : Hp} {p : Addr} {o : HO} (e : LamX.ExtN H H') (n : H p = none) : LamX.ExtN H (upd H' p o) := fun b u h z => by
  rw [upd_ne (ne_of_none h n)]; exact e b u h z
theorem same_set {H H' : Hp} {p : Addr} {o : HO} (e : Same H H') (n : H p = none) : Same H (upd H' p o) := fun b u h => by
  rw [upd_ne (ne_of_none h n)]; exact e b u h
theorem tabs_same {T : List (Addr × Str)} {H H' : Hp} (t : LamX.Tabs T H) (s : Same H H') : LamX.Tabs T H' := t.ext s
/-- a list that no table and no code object stands at is changed -/
theorem tabs_upd {T : List (Addr × Str)} {H : Hp} {p : Addr} {xs : List V} {o : HO} (t : LamX.Tabs T H) (n : H p = some (.lst xs)) : LamX.Tabs T (upd H p o) := fun q hq => by
  obtain ⟨ps, h1, h2, h3⟩ := t q hq
  refine ⟨ps, ?_, h2, fun pos cv hc => ?_⟩
  · rw [upd_ne (ne_of h1 n (by intro z; cases z))]; exact h1
  · obtain ⟨c, e1, e2⟩ := h3 pos cv hc
    refine ⟨c, e1, ?_⟩
    rw [upd_ne (ne_of e2 n (by intro z; unfold LamX.CodeO at z; cases z))]; exact e2
/-! ### a def called while an exception is handled: the exception's object p stands -/
structure FnPin (P : Program) (w : World) (K : PySem.W.Frag) (mg : Str → Option Value) (base : Heap) (k : Nat) (f : Addr) (fd : FuncData) (ps : List Str) (sp : Addr × Obj → Sp) : Prop where
  len : ∀ p vs H Q E, sp p vs H Q E → vs.length = ps.length
  run : ∀ A outer s H args us vs Q E p, L2H.RoomH k A → L2H.PinOk outer H s p → Env0 P w K mg base A outer s H → BindsTo s fd args (ps.zip us) → Vals vs us → sp p vs H Q E →
    codeAny (model P w) A (.call (.ref f) args) (CR CX0 outer P w H s Q E) s
theorem pin_of {P : Program} {w : World} {K : PySem.W.Frag} {mg : Str → Option Value} {base : Heap} {k : Nat} {f : Addr} {x : Str} {prm : Arguments} {bd : List Stmt} {sc : Scope} {fd : FuncData} {N ps : List Str} {sp : Addr × Obj → Sp}
    (F : FunD K x x prm bd sc [] [] f fd) (S : FnScope N ps sc) (len : ∀ p vs H Q E, sp p vs H Q E → vs.length = ps.length)
    (hb : ∀ (cd : Value) (A : Around) (outer : List Env) (s : Shared) (H : Hp) (vs : List V) (Q : VK) (E : XK) (p : Addr × Obj), L2H.RoomH k (A.deeper (envOfC x sc s.heap.objs.size f cd)) → sp p vs H Q E →
      ∃ t, PSs (L2H.cxH CX0 P w K mg base N x sc f cd A outer s H E p) bd t ∧ t { nx := fun _ H' => Q .non H', rt := Q } (start N vs) H) : FnPin P w K mg base (k + 1) f fd ps sp := by
  obtain ⟨oc, od, dV, kV, doc, pm, an, cd, ct, osl, rfl, lk, hcd, _, _⟩ := F.ex
  refine ⟨len, ?_⟩
  intro A outer s H args us vs Q E p room pin e0 bind r hsp
  have inK : K.In s.heap := e0.mod.kin.keeps (fun b o e => (e0.bs b o e).1)
  have nolim : s.heap.NoLimit := e0.mod.nolimit.keeps (fun b o e => (e0.bs b o e).1)
  have kinds : ∀ y ∈ ps.zip us, sc.names.lookup y.1 = some .local ∨ (sc.names.lookup y.1 = some .cell ∧ ((cellsFrom (s.heap.objs.size + 1) sc.names []).lookup y.1).isSome = true) := by
    rintro ⟨n, v⟩ hy
    cases S.par n (List.of_mem_zip hy).1 with
    | inl q => exact Or.inl q
    | inr q => exact Or.inr ⟨q, PySem.W.cellsFrom_some _ _ _ (Or.inl q)⟩
  apply codeAny_call_function room.depth (inK _ _ lk) rfl S.co S.gen rfl (PySem.W.codeRec_of inK hcd)
  apply bind
  apply wpAny_newFunctionEnv_cells S.kind kinds
  intro env he s1 x1
  subst he
  refine ⟨nolim.keeps x1.toInCall.keep, codeAny_func ?_⟩
  obtain ⟨t, ht, q0⟩ := hb cd A outer s H vs Q E p (room.deeper _) hsp
  have I := L2H.inv_startH (CX := CX0) (P := P) (mg := mg) (E := E) S pin e0 (len _ _ _ _ _ hsp) r x1
  apply wpAny_mono (ht.run [] s1 (start N vs) H _ I q0)
  · intro fl s' hs
    cases fl with
    | ret u => obtain ⟨v, _, H', J, rv, z⟩ := hs; exact ⟨v, H', J.os, J.bare, J.base, J.hok, rv, z⟩
    | next => obtain ⟨_, H', J, z⟩ := hs; exact ⟨.non, H', J.os, J.bare, J.base, J.hok, rfl, z⟩
    | brk => obtain ⟨_, _, _, z⟩ := hs; exact z.elim
    | cont => obtain ⟨_, _, _, z⟩ := hs; exact z.elim
  · intro e s' hs
    exact hs
/-- such a def told by its name -/
structure PinOkD (P : Program) (w : World) (K : PySem.W.Frag) (mg : Str → Option Value) (base : Heap) (k : Nat) (x : Str) (ps : List Str) (sp : Addr × Obj → Sp) : Prop where
  gl : mg x = some (.ref (He.ga K x))
  kp : PySem.W.keepIn K (.ref (He.ga K x)) = true
  ex : ∃ fd, FnPin P w K mg base k (He.ga K x) fd ps sp ∧ Binds K fd ps []
theorem pindef_of {P : Program} {w : World} {K : PySem.W.Frag} {mg : Str → Option Value} {base : Heap} {k : Nat} {x : Str} {ps : List Str} {sp : Addr × Obj → Sp} {st : Stmt} (d : ∃ fd, FnT K x st fd) (g : mg x = some (.ref (He.ga K x)))
    (hb : ∀ (kV doc pm : Value) (an : Option Addr) (cdv ct : Value) (us : List Value), us.length = ps.length → bindArgs (PySem.W.fnOf x x (defArgs st) (defBody st) (defScope st) .none kV doc pm an cdv ct) ⟨us, []⟩ = pure (ps.zip us))
    (h : ∀ fd, FnT K x st fd → FnPin P w K mg base k (He.ga K x) fd ps sp) : PinOkD P w K mg base k x ps sp := by
  obtain ⟨fd, F⟩ := d
  exact ⟨g, F.kp, fd, h fd F, F.bindsN hb⟩
def tCallP (sp : Addr × Obj → Sp) (q : Addr × Obj) (E : XK) (t : TA) : TE := fun σ H Q => t σ H fun vs H1 => sp q vs H1 Q E
theorem pe_callP {X : Cx} {k : Nat} {x : Str} {ps : List Str} {sp : Addr × Obj → Sp} {E : XK} {e : Expr} {es : List Expr} {t : TA} {p pos : Pos} {q : Addr × Obj} (D : PinOkD X.prog X.w X.K X.mg X.base k x ps sp) (hr : L2H.RoomH k X.A) (hq : q ∈ X.pn) (hg : Gl X x) (ha : PA X (e :: es) t)
    (hdb : (x == ("__debug__" : Str)) = false := by decide) (he : starEach (e :: es) X.env = (false, eval e X.env) :: starEach es X.env := by rfl) (hpl : (backTo pos (starEach es X.env)).any (·.1) = false := by rfl) :
    PE X (.Call (.Name x p) (e :: es) [] pos) (tCallP sp q E t) := by
  obtain ⟨fd, F, hb⟩ := D.ex
  constructor
  intro pins s σ H Q I h
  apply wpAny_Call_Name_kw
  apply ld_glob I hg D.gl _ hdb
  refine PySem.W.callWith_K (h₀ := X.base) I.ok.mod.kin D.kp (thn (ha.run pos pins s σ H _ I h) ?_) he hpl
  rintro us s1 ⟨vs, H1, I1, r, z⟩
  refine ⟨I1.kIn, ?_⟩
  have hl : us.length = ps.length := r.length ▸ F.len _ _ _ _ _ z
  have b := hb s1 us I1.kIn (by rw [List.append_nil]; exact hl)
  rw [List.append_nil] at b
  obtain ⟨p1, p2, p3, p4, p5⟩ := I1.pin q (List.mem_append_left _ hq)
  have pin : L2H.PinOk X.stack H1 s1 q := by
    refine ⟨p1, p2, fun hm => ?_, p5⟩
    cases List.mem_cons.mp (I1.stkSub q.1 hm) with
    | inl z => exact p3 z
    | inr z => exact p4 z
  apply wpAny_call
  apply codeAny_mono (F.run X.A X.stack s1 H1 ⟨us, []⟩ us vs Q E q hr pin I1.env0 b r z)
  intro rr s' hq'
  cases rr with
  | error e => exact (show False from hq').elim
  | ok fl =>
    cases fl with
    | ret u => exact I1.after hq'
    | next => exact False.elim hq'
    | brk => exact False.elim hq'
    | cont => exact False.elim hq'
theorem roomH_mark {k : Nat} {A : Around} {v : Option Value} (r : Room k A) : L2H.RoomH k (A.mark v) := ⟨r.dp, r.un⟩
/-! ### isinstance of such an exception; count in a list of flat things -/
theorem call_isPin {X : Cx} {D : Addr} {q : Addr × Obj} (C : ExcC X.K D) (hz : Zc (.ref D) none q.2) (hf : ∃ vs, q.2.data = .fields vs) (hm : q ∈ X.pn) : CallR X (.builtin "isinstance") (rIsE X.K D q.1) := by
  intro pins s σ H xs us Q I r h
  obtain ⟨c, cv, b, rfl, hcv, e, z⟩ := h
  obtain ⟨u1, u2, rfl, r1, r2⟩ := vals2 r
  obtain rfl : u1 = Value.ref q.1 := r1
  obtain rfl := hcv _ r2
  have hget := (I.pin q (List.mem_append_left _ hm)).1
  obtain ⟨vs, hv⟩ := hf
  have J : PySem.W.InstAt s.heap q.1 q.2 D none := by
    obtain ⟨qa, oc, od, dt, sl⟩ := q
    obtain ⟨z1, z2⟩ := hz
    simp only at z1 z2 hv
    subst z1 z2 hv
    exact ⟨hget, rfl, rfl, trivial⟩
  refine PySem.W.kia_one (PySem.W.handS_kitx_exc C.hg C.hk C.hs C.hd C.ha C.hn C.ht C.hm) I.kIn J e (fun y => nomatch y) ?_
  exact fun tk => ⟨.bl b, H, I.kept (t' := tk) (fun _ _ y => y), rfl, z⟩
theorem countP_eqU {y : V} : ∀ {ys : List V} {us : List Value}, Vals ys us → ys.all flatV = true → us.countP (eqU y) = ys.countP fun z => eqV z y
  | [], _, r, _ => by cases r; rfl
  | z :: zs, _, r, f => by
    cases r with
    | cons r1 r2 =>
      rw [List.all_cons, Bool.and_eq_true] at f
      rw [List.countP_cons, List.countP_cons, countP_eqU r2 f.2, eqU_of r1 f.1]
def rCountF (K : PySem.W.Frag) : V → List V → Hp → VK → Prop := fun x xs H Q => ∃ (a : Addr) (ys : List V) (y : V), x = .ref a ∧ xs = [y] ∧ SqL K H a ys ∧ flatV y = true ∧ ys.all flatV = true ∧ Q (.int ((ys.countP fun z => eqV z y : Nat) : Int)) H
theorem mt_countF {X : Cx} : MtR X "list.count" (rCountF X.K) := by
  intro pins s σ H x xs v us Q I rx rxs h
  obtain ⟨a, ys, y, rfl, rfl, hs, fy, fys, q⟩ := h
  obtain rfl : v = Value.ref a := rx
  obtain ⟨u, rfl, ru⟩ := rxs.one
  obtain ⟨its, rv, ⟨⟨cls, dd, data, sl⟩, n, ho, hc, hdn, hd⟩, hlen⟩ := I.list hs
  simp only at hc hd
  subst hc hd
  refine call_meets PySem.F.slot_list_count ⟨_, ho, rfl⟩ PySem.F.entry_list_count (PySem.F.args_list_count_2 _ _) (SeqAt.list_countAt a its.toArray n dd sl u (eqU y)) ⟨ho, fun u' hu' => mem_eqAt ru fy rv fys u' (by simpa using hu'), ?_⟩
  have ec : its.toArray.toList.countP (eqU y) = ys.countP fun z => eqV z y := by simpa using countP_eqU rv fys
  exact ⟨.int ((ys.countP fun z => eqV z y : Nat) : Int), H, I.tok _, ⟨s.toks, by rw [← ec]⟩, q⟩
/-! ### the refusals: which class an exception is of -/
def kinds : List Str := ["NoOrder", "NoNumber", "NoRow", "NotUpDown", "NoPattern", "NoTree", "NoRing", "NoText", "NoDeed", "NoLine", "NoLoose", "NoFraction"]
def words : List Str := ["order", "number", "line of numbers", "updown", "pattern", "tree", "ring", "text", "deed"]
def words2 : List Str := ["line", "loose", "fraction"]
def kindsAt (j : Nat) : List V := [.bl (decide (0 = j)), .bl (decide (1 = j)), .bl (decide (2 = j))] ++ [.bl (decide (3 = j)), .bl (decide (4 = j)), .bl (decide (5 = j))] ++ [.bl (decide (6 = j)), .bl (decide (7 = j)), .bl (decide (8 = j))] ++ [.bl (decide (9 = j)), .bl (decide (10 = j)), .bl (decide (11 = j))]
theorem kinds_count : ∀ j, j < 12 → (kindsAt j).countP (fun z => eqV z (.bl true)) = 1 := by decide
theorem kinds_here : ∀ j, j < 12 → (kindsAt j)[j]? = some (.bl true) := by decide
theorem kinds_ahead : ∀ j, j < 12 → ∀ m, m < j → (kindsAt j)[m]? = some (.bl false) := by decide
theorem kinds_flat (j : Nat) : (kindsAt j).all flatV = true := rfl
structure ClassIs (K : PySem.W.Frag) (C : Addr) (j : Nat) : Prop where
  lt : j < 12
  exc : ExcC K C
  turn : PySem.W.kitOne K (.ref C) (.ref (He.ga K "TurnError")) = some true
  val : PySem.W.kitOne K (.ref C) (.type "ValueError") = some true
  caught : PySem.W.exmOne K (.ref C) (.ref (He.ga K "TurnError")) = some true
  each : ∀ i x, kinds[i]? = some x → PySem.W.kitOne K (.ref C) (.ref (He.ga K x)) = some (decide (i = j))
def excB (K : PySem.W.Frag) (D : Addr) : Bool := He.eqO (PySem.W.findIn K (.ref D) "__getattribute__") (some (some (.builtin "BaseException.__getattribute__"))) && (He.eqO (PySem.W.findIn K (.ref D) "__getattr__") (some none) && (decide (PySem.W.subIn K (.ref D) (.type "BaseException") = some true) &&
  (PySem.W.hasDictIn K D && (He.eqO (PySem.W.findIn K (.ref D) "__class__") (some (some (.builtin "object.__class__"))) && (He.eqO (PySem.W.specialIn K (.builtin "object.__class__") "__get__") (some (some (.builtin "getset_descriptor.__get__"))) && (decide (PySem.W.takesIn K (.builtin "object.__class__") = some true) && decide (PySem.W.mroIn K D (.type "object") = some true)))))))
theorem excB_ok {K : PySem.W.Frag} {D : Addr} (h : excB K D = true) : ExcC K D := by
  obtain ⟨h1, h⟩ := He.ba h
  obtain ⟨h2, h⟩ := He.ba h
  obtain ⟨h3, h⟩ := He.ba h
  obtain ⟨h4, h⟩ := He.ba h
  obtain ⟨h5, h⟩ := He.ba h
  obtain ⟨h6, h⟩ := He.ba h
  obtain ⟨h7, h8⟩ := He.ba h
  exact ⟨He.eqO_ok h1, He.eqO_ok h2, of_decide_eq_true h3, h4, He.eqO_ok h5, He.eqO_ok h6, of_decide_eq_true h7, of_decide_eq_true h8⟩
def classB (K : PySem.W.Frag) (j : Nat) (x : Str) : Bool := decide (j < 12) && (excB K (He.ga K x) && (decide (PySem.W.kitOne K (.ref (He.ga K x)) (.ref (He.ga K "TurnError")) = some true) && (decide (PySem.W.kitOne K (.ref (He.ga K x)) (.type "ValueError") = some true) && (decide (PySem.W.exmOne K (.ref (He.ga K x)) (.ref (He.ga K "TurnError")) = some true) &&
  (List.range 12).all fun i => decide (PySem.W.kitOne K (.ref (He.ga K x)) (.ref (He.ga K (kinds.getD i ""))) = some (decide (i = j)))))))
theorem classB_ok {K : PySem.W.Frag} {j : Nat} {x : Str} (h : classB K j x = true) : ClassIs K (He.ga K x) j := by
  obtain ⟨h1, h⟩ := He.ba h
  obtain ⟨h2, h⟩ := He.ba h
  obtain ⟨h3, h⟩ := He.ba h
  obtain ⟨h4, h⟩ := He.ba h
  obtain ⟨h5, h6⟩ := He.ba h
  refine ⟨of_decide_eq_true h1, excB_ok h2, of_decide_eq_true h3, of_decide_eq_true h4, of_decide_eq_true h5, fun i x' e => ?_⟩
  have hi : i < 12 := (List.getElem?_eq_some_iff.mp e).1
  have z := of_decide_eq_true (List.all_eq_true.mp h6 i (List.mem_range.mpr hi))
  have ex : kinds.getD i "" = x' := by rw [List.getD_eq_getElem?_getD, e]; rfl
  rw [ex] at z
  exact z
/-! ### a thing of whatever kind -/
def tyNames : List String := ["int", "bool", "NoneType", "str", "tuple", "list", "dict"]
theorem kit_int : ∀ ty ∈ tyNames, kitB ty "int" = some (ty == "int" || ty == "bool") := by decide +kernel
theorem kit_bool : ∀ ty ∈ tyNames, kitB ty "bool" = some (ty == "bool") := by decide +kernel
theorem kit_whole : ∀ ty ∈ tyNames, (ty == "int" || ty == "bool") = true → (!(ty == "bool")) = (ty == "int") := by decide
theorem kit_str : ∀ ty ∈ tyNames, kitB ty "str" = some (ty == "str") := by decide +kernel
theorem kit_tuple : ∀ ty ∈ tyNames, kitB ty "tuple" = some (ty == "tuple") := by decide +kernel
theorem kit_list : ∀ ty ∈ tyNames, kitB ty "list" = some (ty == "list") := by decide +kernel
/-- b: it is a whole number -/
structure Thing (K : PySem.W.Frag) (H : Hp) (x : V) (b : Bool) : Prop where
  ex : ∃ ty, TyX K H x (.type ty) ∧ ty ∈ tyNames ∧ (ty == "int") = b
  int : b = true → ∃ i, x = .int i
  non : b = false → ∀ i, x ≠ .int i
theorem thing_int {K : PySem.W.Frag} {H : Hp} (i : Int) : Thing K H (.int i) true := ⟨⟨"int", .base (.int i), by decide, rfl⟩, fun _ => ⟨i, rfl⟩, fun z => nomatch z⟩
theorem thing_bl {K : PySem.W.Frag} {H : Hp} (c : Bool) : Thing K H (.bl c) false := ⟨⟨"bool", .base (.bl c), by decide, rfl⟩, (fun z => nomatch z), fun _ _ z => nomatch z⟩
theorem thing_non {K : PySem.W.Frag} {H : Hp} : Thing K H .non false := ⟨⟨"NoneType", .base .non, by decide, rfl⟩, (fun z => nomatch z), fun _ _ z => nomatch z⟩
theorem thing_str {K : PySem.W.Frag} {H : Hp} (x : Str) : Thing K H (.str x) false := ⟨⟨"str", .base (.str x), by decide, rfl⟩, (fun z => nomatch z), fun _ _ z => nomatch z⟩
theorem thing_tup {K : PySem.W.Frag} {H : Hp} {a : Addr} {xs : List V} (e : H a = some (.tup xs)) : Thing K H (.ref a) false := ⟨⟨"tuple", .base (.tup e), by decide, rfl⟩, (fun z => nomatch z), fun _ _ z => nomatch z⟩
theorem thing_lst {K : PySem.W.Frag} {H : Hp} {a : Addr} {xs : List V} (e : H a = some (.lst xs)) : Thing K H (.ref a) false := ⟨⟨"list", .base (.lst e), by decide, rfl⟩, (fun z => nomatch z), fun _ _ z => nomatch z⟩
theorem thing_dic {K : PySem.W.Frag} {H : Hp} {a : Addr} {xs : List (Key × V)} (e : H a = some (.dK xs)) : Thing K H (.ref a) false := ⟨⟨"dict", .base (.dK e), by decide, rfl⟩, (fun z => nomatch z), fun _ _ z => nomatch z⟩
def NumOk (x : V) (a b : Int) : Prop := ∃ i, x = .int i ∧ a ≤ i ∧ i ≤ b
/-! ### data -/
def intsD (ns : List Int) : PyData := .list (ns.map PyData.int)
theorem dp_ints {K : PySem.W.Frag} {H : Hp} : ∀ ns : List Int, DpAll K H (ns.map V.int) (ns.map PyData.int)
  | [] => .nil
  | n :: r => .cons (.int n) (dp_ints r)
theorem dp_list {K : PySem.W.Frag} {H : Hp} {a : Addr} {ns : List Int} (h : SqL K H a (ns.map V.int)) : Dp K H (.ref a) (intsD ns) := .lst h (dp_ints ns)
theorem lay_ints : ∀ ns : List Int, PyData.canLayAll0 (ns.map PyData.int) = true
  | [] => rfl
  | n :: r => by
    show (PyData.canLay0 (.int n) && PyData.canLayAll0 (r.map PyData.int)) = true
    rw [lay_ints r]; rfl
theorem depth_ints : ∀ ns : List Int, PyData.depthAll (ns.map PyData.int) = 0
  | [] => rfl
  | n :: r => by
    show max (PyData.depth (.int n)) (PyData.depthAll (r.map PyData.int)) = 0
    rw [depth_ints r]; rfl
theorem shaped_ints (ns : List Int) : SeqAt.shaped (intsD ns) = true := by
  show ((PyData.canLayAll0 (ns.map PyData.int)) && decide (PyData.depthAll (ns.map PyData.int) + 1 ≤ 64)) = true
  rw [lay_ints, depth_ints]; rfl
theorem eqv_ints (ns : List Int) : PyData.eqv (intsD ns) (intsD ns) = true := SeqAt.eqv_refl _ (show PyData.canLay0 (intsD ns) = true from lay_ints ns)
def rowsD (rs : List (List Int)) : PyData := .list (rs.map intsD)
theorem lay_rows : ∀ rs : List (List Int), PyData.canLayAll0 (rs.map intsD) = true
  | [] => rfl
  | n :: r => by
    show (PyData.canLayAll0 (n.map PyData.int) && PyData.canLayAll0 (r.map intsD)) = true
    rw [lay_rows r, lay_ints]; rfl
theorem depth_rows : ∀ rs : List (List Int), PyData.depthAll (rs.map intsD) ≤ 1
  | [] => Nat.zero_le _
  | n :: r => by
    show max (PyData.depthAll (n.map PyData.int) + 1) (PyData.depthAll (r.map intsD)) ≤ 1
    have z := depth_rows r
    rw [depth_ints]; omega
theorem shaped_rows (rs : List (List Int)) : SeqAt.shaped (rowsD rs) = true := by
  show ((PyData.canLayAll0 (rs.map intsD)) && decide (PyData.depthAll (rs.map intsD) + 1 ≤ 64)) = true
  have z := depth_rows rs
  rw [lay_rows, decide_eq_true (by omega)]; rfl
theorem eqv_rows (rs : List (List Int)) : PyData.eqv (rowsD rs) (rowsD rs) = true := SeqAt.eqv_refl _ (show PyData.canLay0 (rowsD rs) = true from lay_rows rs)
/-- _law_class: the word of the class that the exception is of -/
def spClass (K : PySem.W.Frag) (p : Addr × Obj) : Sp := fun vs H Q _ => vs = [.ref p.1] ∧ ∃ C j wd, Zc (.ref C) none p.2 ∧ (∃ fs, p.2.data = .fields fs) ∧ ClassIs K C j ∧ (words ++ words2)[j]? = some wd ∧ ∀ H', Same H H' → Q (.str wd) H'
/-! ### the promises that many laws share -/
def spWhole (K : PySem.W.Frag) : Sp := fun vs H Q _ => ∃ x b, vs = [x] ∧ Thing K H x b ∧ Q (.bl b) H
/-- the message's parts are short -/
def Short (a : Int) : Prop := a.natAbs.log2 < 1920 ∧ (Str.empty ++ ("the number is not from " : Str) ++ (toString a : Str)).length ≤ sizeLine ∧ (Str.empty ++ ("the number is not from " : Str) ++ (toString a : Str) ++ (" to " : Str)).length ≤ sizeLine
def spNeed (K : PySem.W.Frag) (C : Addr) : Sp := fun vs H Q E => ∃ x a b z, vs = [x, .int a, .int b] ∧ Short a ∧ (b.natAbs.log2 < 1920 ∧ (Str.empty ++ ("the number is not from " : Str) ++ (toString a : Str) ++ (" to " : Str) ++ (toString b : Str)).length ≤ sizeLine) ∧ Thing K H x z ∧
  (NumOk x a b → Q .non H) ∧ (¬ NumOk x a b → E (.ref C) none H)
def spCellAt (K : PySem.W.Frag) : Sp := fun vs H Q _ => ∃ (a : Addr) (ns : List Int) (i : Nat), vs = [.ref a, .int (i : Int)] ∧ SqL K H a (ns.map V.int) ∧ ∀ c, Q (.int c) H
def spDraw : Sp := fun vs H Q _ => ∃ c k b : Int, vs = [.int c, .int k, .int b] ∧ 0 ≤ k ∧ k < 1048576 ∧ 0 < b ∧ b < 1073741824 ∧ ∀ r, 0 ≤ r → r < b → Q (.int r) H
def spNoNumber (K : PySem.W.Frag) : Sp := fun vs H Q _ => ∃ c k a b : Int, vs = [.int c, .int k, .int a, .int b] ∧ 0 ≤ k ∧ k < 1048576 ∧ -1000 ≤ a ∧ a ≤ 1000 ∧ a ≤ b ∧ b < 10 ^ 30 ∧ ∀ v z H', Same H H' → Thing K H' v z → ¬ NumOk v a b → Q v H'
/-! ### x(lambda: ..), where x tells the word of what is raised -/
def TRef (K : PySem.W.Frag) : (XK → Hp → VK → Prop) → Hp → VK → Prop := fun tl H Q => tl (fun cls d H' => d = none ∧ ∃ C j wd, cls = .ref C ∧ ClassIs K C j ∧ (words ++ words2)[j]? = some wd ∧ ∀ H'', Same H' H'' → Q (.str wd) H'') H (fun _ H' => ∃ v, some (some (V.str "told")) = some (some v) ∧ Q v H')
def tExc (K : PySem.W.Frag) (i : Nat) (a : Addr) (cls : Value) (d : Option Addr) : TE := fun σ H Q => σ[i]? = some (some (.ref a)) ∧ d = none ∧ ∃ C j wd, cls = .ref C ∧ ClassIs K C j ∧ (words ++ words2)[j]? = some wd ∧ ∀ H', Same H H' → Q (.str wd) H'
theorem takes_len {X : Cx} {W : WX} (t : Takes X W) : Takes X (fun c d σ H => σ.length = X.N.length → W c d σ H) := by
  rintro u s' ⟨a, B, sI, pins, σ, H, cls, d, e, I, nb, up, sky, na, os, ag, hw⟩
  exact t u s' ⟨a, B, sI, pins, σ, H, cls, d, e, I, nb, up, sky, na, os, ag, hw I.len⟩
/-! ### a call of a local name that holds one of several defs, which may raise -/
structure HeldX (P : Program) (w : World) (K : PySem.W.Frag) (mg : Str → Option Value) (base : Heap) (k : Nat) (sp : Sp) (f : Addr) : Prop where
  kp : PySem.W.keepIn K (.ref f) = true
  ex : ∃ fd ps, FnOk P w K mg base (L2.CX P w) k f fd ps sp ∧ Binds K fd ps []
theorem held_of {P : Program} {w : World} {K : PySem.W.Frag} {mg : Str → Option Value} {base : Heap} {k j : Nat} {x : Str} {ps : List Str} {sp sp' : Sp} (D : DefOk P w K mg base (L2.CX P w) k x ps sp) (hj : k ≤ j) (h : ∀ vs H Q E, sp' vs H Q E → sp vs H Q E) : HeldX P w K mg base j sp' (He.ga K x) := by
  obtain ⟨fd, F, b⟩ := D.ex
  exact ⟨D.kp, fd, ps, (F.mono hj).imp h, b⟩
def tCallM (i : Nat) (fs : List Addr) (sp : Sp) (E : XK) (t : TA) : TE := fun σ H Q => ∃ f, σ[i]? = some (some (.ref f)) ∧ f ∈ fs ∧ t σ H fun vs H1 => sp vs H1 Q E
theorem pe_callM {X : Cx} {k j i : Nat} {fs : List Addr} {sp : Sp} {E : XK} {x : Str} {p pos : Pos} {e : Expr} {es : List Expr} {t : TA} (F : ∀ f ∈ fs, HeldX X.prog X.w X.K X.mg X.base k sp f) (hr : Room j X.A) (hN : X.N[i]? = some x) (hv : Vis X.env.scope x) (hx : Passes (L2.CX X.prog X.w) X E) (ha : PA X (e :: es) t)
    (hj : k ≤ j := by decide) (hdb : (x == ("__debug__" : Str)) = false := by decide) (hcd : (x == ("__classdict__" : Str)) = false := by decide) (he : starEach (e :: es) X.env = (false, eval e X.env) :: starEach es X.env := by rfl) (hpl : (backTo pos (starEach es X.env)).any (·.1) = false := by rfl) :
    PE X (.Call (.Name x p) (e :: es) [] pos) (tCallM i fs sp E t) := by
  constructor
  rintro pins s σ H Q I ⟨f, h1, h2, h3⟩
  obtain ⟨kp, fd, ps, G, b⟩ := F f h2
  refine (pe_callL (f := f) (dvs := []) (ds := []) G (hr.mono hj) hN hv kp b .nil hx ha hdb hcd he hpl).run pins s σ H Q I ⟨h1, ?_⟩
  have e0 : (fun (vs : List V) (H1 : Hp) => sp (vs ++ []) H1 Q E) = fun vs H1 => sp vs H1 Q E := by
    funext vs H1; rw [List.append_nil]
  show t σ H (fun vs H1 => sp (vs ++ []) H1 Q E)
  rw [e0]
  exact h3
/-! ### things stay -/
theorem tyx_ext {K : PySem.W.Frag} {H H' : Hp} {x : V} {t : Value} (e : LamX.ExtN H H') (h : TyX K H x t) : TyX K H' x t := by
  cases h with
  | base b =>
    cases b with
    | non => exact .base .non
    | bl c => exact .base (.bl c)
    | int i => exact .base (.int i)
    | str y => exact .base (.str y)
    | flt y => exact .base (.flt y)
    | lst z => exact .base (.lst (e _ _ z fun _ q => by cases q))
    | frz z => exact .base (.frz (e _ _ z fun _ q => by cases q))
    | tup z => exact .base (.tup (e _ _ z fun _ q => by cases q))
    | dK z => exact .base (.dK (e _ _ z fun _ q => by cases q))
    | dT z => exact .base (.dT (e _ _ z fun _ q => by cases q))
    | ins z cl ha hn htk hm => exact .base (.ins (e _ _ z fun _ q => by cases q) cl ha hn htk hm)
  | byt b => exact .byt b
  | set z => exact .set (e _ _ z fun _ q => by cases q)
  | kList z c => exact .kList z c
  | kTuple z c => exact .kTuple z c
  | kDict z c => exact .kDict z c
  | fTuple z => exact .fTuple (e _ _ z fun _ q => by cases q)
  | fDict z => exact .fDict (e _ _ z fun _ q => by cases q)
theorem thing_ext {K : PySem.W.Frag} {H H' : Hp} {x : V} {b : Bool} (e : LamX.ExtN H H') (h : Thing K H x b) : Thing K H' x b := by
  obtain ⟨ty, z, m, q⟩ := h.ex
  exact ⟨⟨ty, tyx_ext e z, m, q⟩, h.int, h.non⟩
def spBad (K : PySem.W.Frag) (C : Addr) (a b : Int) : Sp := fun vs H _ E => ∃ x z, vs = [x] ∧ Thing K H x z ∧ ¬ NumOk x a b ∧ E (.ref C) none H
def spLaw (K : PySem.W.Frag) (Pt : Addr) : Sp := fun vs H Q _ => ∃ (a : Addr) (ns : List Int), vs = [.ref a] ∧ ns.length ≤ 63 ∧ SqL K H a (ns.map V.int) ∧ H Pt = some (.tbl #[]) ∧ ∀ H', Q (.bl true) H'
theorem dp_refs {K : PySem.W.Frag} {H : Hp} : ∀ {rs : List Addr} {ds : List (List Int)}, rs.length = ds.length → (∀ (i : Nat) q d, rs[i]? = some q → ds[i]? = some d → SqL K H q (d.map V.int)) → DpAll K H (rs.map V.ref) (ds.map intsD)
  | [], [], _, _ => .nil
  | q :: rs, d :: ds, hl, h => .cons (dp_list (h 0 q d rfl rfl)) (dp_refs (by simpa using hl) fun i q' d' a b => h (i + 1) q' d' a b)
theorem dp_rows {K : PySem.W.Frag} {H : Hp} {a : Addr} {rs : List Addr} {ds : List (List Int)} (e : SqL K H a (rs.map V.ref)) (hl : rs.length = ds.length) (h : ∀ (i : Nat) q d, rs[i]? = some q → ds[i]? = some d → SqL K H q (d.map V.int)) : Dp K H (.ref a) (rowsD ds) := .lst e (dp_refs hl h)
theorem kit_ll {K : PySem.W.Frag} : PySem.W.kitOne K (.type "list") (.type "list") = some true := kit_ty (by decide +kernel)
theorem kit_ib {K : PySem.W.Frag} : PySem.W.kitOne K (.type "int") (.type "bool") = some false := kit_ty (by decide +kernel)
theorem ne_same {K : PySem.W.Frag} {H : Hp} {x y : V} {d : PyData} {Q : VK} (h1 : Dp K H x d) (h2 : Dp K H y d) (sh : SeqAt.shaped d = true) (ev : PyData.eqv d d = true) (q : Q (.bl false) H) : rNeD K x y H Q := ⟨d, d, h1, h2, sh, sh, by rw [ev]; exact q⟩
theorem eq_same {K : PySem.W.Frag} {H : Hp} {x y : V} {d : PyData} {Q : VK} (h1 : Dp K H x d) (h2 : Dp K H y d) (sh : SeqAt.shaped d = true) (ev : PyData.eqv d d = true) (q : Q (.bl true) H) : rEqD K x y H Q := ⟨d, d, h1, h2, sh, sh, by rw [ev]; exact q⟩
theorem neS_same {z : Str} {H : Hp} {Q : VK} (q : Q (.bl false) H) : rNe (.str z) (.str z) H Q := ⟨rfl, by rw [decide_eq_true rfl]; exact q⟩
theorem ne_int {i : Int} {H : Hp} {Q : VK} (q : Q (.bl false) H) : rNe (.int i) (.int i) H Q := ⟨rfl, by rw [decide_eq_true rfl]; exact q⟩
theorem sz' {n : Nat} (h : n ≤ 1000) : n ≤ sizeLine := Nat.le_trans h (by decide)
end Up

set_option Elab.async false
set_option linter.all false
set_option maxRecDepth 100000
set_option maxHeartbeats 4000000
namespace Up
open PySem PySem.Spec PyProof.Rows L2 SrtO
section
variable {prog : Program} {w : World} {A : Around} {s : Shared}
def ltC (B : Int) (k : Value → List Int) (v u : Value) : Bool := decide (TS.code B (k v) < TS.code B (k u))
theorem swo_ltC (B : Int) (k : Value → List Int) : Swo (ltC B k) := by
  refine ⟨fun x y h => ?_, fun x y z h1 h2 => ?_⟩
  · have a := of_decide_eq_true (p := TS.code B (k x) < TS.code B (k y)) h
    exact decide_eq_false (p := TS.code B (k y) < TS.code B (k x)) (by omega)
  · have a := of_decide_eq_false (p := TS.code B (k y) < TS.code B (k x)) h1
    have b := of_decide_eq_false (p := TS.code B (k z) < TS.code B (k y)) h2
    exact decide_eq_false (p := TS.code B (k z) < TS.code B (k x)) (by omega)
def TOk (h : Heap) (d : Nat) (B : Int) (k : Value → List Int) (vs : List Value) : Prop := ∀ v ∈ vs, TS.TupInts h v (k v) ∧ (k v).length = d ∧ TS.Bd B (k v)
theorem tup_cmpC {vs : List Value} {k : Value → List Int} {d : Nat} {B : Int} (hp : TOk s.heap d B k vs) : Cmp prog w A s (tuples' true) (fun p => p.1 ∈ vs) (lt2 (ltC B k)) := by
  intro p q hm hm'
  obtain ⟨h1, l1, b1⟩ := hp _ hm
  obtain ⟨h2, l2, b2⟩ := hp _ hm'
  show wpAny (model prog w) A (keyLt' (tuples' true) p.1 q.1) (fun r s' => s' = s ∧ r = ltC B k p.1 q.1) (fun _ _ => False) s
  unfold ltC
  generalize k p.1 = ns at h1 l1 b1 ⊢
  generalize k q.1 = ms at h2 l2 b2 ⊢
  obtain ⟨a, xs, e, ⟨o, ho, hc, n, hd⟩, i1⟩ := h1
  obtain ⟨a', ys, e', ⟨o', ho', hc', n', hd'⟩, i2⟩ := h2
  rw [e, e']
  have hs : xs.size = ys.size := by
    have h3 := i1.length
    have h4 := i2.length
    rw [Array.length_toList] at h3 h4
    omega
  refine PySem.W.kat_lt ho hd ho' hd' ?_
  rw [decide_eq_false (p := xs.size < ys.size) (by omega)]
  exact TS.lex_ints 0 i1 i2 (l1.trans l2.symm) b1 b2 ⟨rfl, rfl⟩
theorem tup_sortableC {a : Addr} {vs : List Value} {k : Value → List Int} {d : Nat} {B : Int} (hd : 1 ≤ d) (h0 : 0 < vs.length) (hp : TOk s.heap d B k vs) (ha : ∀ o, s.heap.get? a = some o → o.cls ≠ .type "tuple") : SortableO prog w A s a vs (ltC B k) := by
  intro h' keep
  have hp' : TOk h' d B k vs := fun v hm => ⟨(hp v hm).1.keeps fun b o e c => keep b o (fun z => by subst z; exact ha o e c) e, (hp v hm).2⟩
  obtain ⟨fs, h1, h2, h3⟩ := TS.firsts_of (d := d) (B := B) hd vs fun v hm => ⟨k v, hp' v hm⟩
  refine ⟨tuples' true, fun Q E hq => ?_, tup_cmpC (s := { s with heap := h' }) hp'⟩
  refine PySem.W.kat_kind (T := .type "int") h1 (by omega) (fun f hm => ?_) (by rfl) ?_
  · obtain ⟨x, t, rfl⟩ := h3 f hm
    exact PySem.W.Looks.now
  · have e : (Value.type "int" != Value.type "tuple") = true := by first | decide +kernel | rfl | decide
    rw [e]
    exact hq
end
section
variable {X : Cx}
/-- tuples at these addresses, of d ints each, each in [0, B) -/
def TAt (H : Hp) (d : Nat) (B : Int) (k : Addr → List Int) (ts : List Addr) : Prop := ∀ t ∈ ts, H t = some (.tup ((k t).map V.int)) ∧ (k t).length = d ∧ TS.Bd B (k t)
/-- sorted(xs), xs a list of tuples of d ints each -/
def rSortedTC (K : PySem.W.Frag) : List V → Hp → VK → Prop := fun vs H Q => ∃ (a : Addr) (ts : List Addr) (k : Addr → List Int) (d : Nat) (B : Int), vs = [V.ref a] ∧ SqL K H a (ts.map V.ref) ∧ 1 ≤ d ∧ TAt H d B k ts ∧
  ∀ (us : List Addr) (p : Addr), us.Perm ts → us.Pairwise (fun x y => TS.code B (k x) ≤ TS.code B (k y)) → H p = none → Q (.ref p) (upd H p (.lst (us.map V.ref)))
def adr : Value → Addr
  | .ref a => a
  | _ => 0
theorem refs_only : ∀ {ts : List Addr} {us : List Value}, Vals (ts.map V.ref) us → us = ts.map Value.ref
  | [], _, .nil => rfl
  | t :: ts, _, .cons r q => by
    obtain rfl := (r : _ = Value.ref t)
    rw [List.map_cons, refs_only q]
theorem of_refs : ∀ ts : List Addr, Vals (ts.map V.ref) (ts.map Value.ref)
  | [] => .nil
  | _ :: ts => .cons rfl (of_refs ts)
theorem out_refs : ∀ {out : List Value}, (∀ v ∈ out, ∃ t, v = Value.ref t) → out = (out.map adr).map Value.ref
  | [], _ => rfl
  | v :: out, h => by
    obtain ⟨t, rfl⟩ := h v List.mem_cons_self
    rw [List.map_cons, List.map_cons, ← out_refs fun u hu => h u (List.mem_cons_of_mem _ hu)]
    rfl
theorem cr_sortedTC : CallR X (.builtin "sorted") (rSortedTC X.K) := by
  intro pins s σ H vs us Q I r h
  obtain ⟨a, ts, k, d, B, rfl, hs, hd, hx, q⟩ := h
  obtain ⟨its, rv, hl, hz⟩ := I.list hs
  obtain ⟨u, rfl, ru⟩ := vals1 r
  obtain rfl : u = Value.ref a := ru
  have ei := refs_only rv
  subst ei
  have hz' : (ts.map Value.ref).length ≤ sizeLine := by rw [List.length_map]; rw [List.length_map] at hz; exact hz
  have hp : TOk s.heap d B (fun v => k (adr v)) (ts.map Value.ref) := fun v hv => by
    obtain ⟨t, ht, rfl⟩ := List.mem_map.mp hv
    obtain ⟨h1, h2, h3⟩ := hx t ht
    obtain ⟨_, its2, r2, o, ho, hc, n, hdd⟩ := I.hok _ _ h1
    exact ⟨⟨t, its2.toArray, rfl, ⟨o, ho, hc, n, hdd⟩, intsAre_of r2⟩, h2, h3⟩
  refine SrtO.sorted_ord (swo_ltC B fun v => k (adr v)) hl.isList hz' (fun h2 h₁ a' ha kk => ?_) fun out hs' hb => ?_
  · refine tup_sortableC (s := { s with heap := h₁ }) hd (by omega) (fun v hm => ⟨(hp v hm).1.keeps fun b o e _ => (kk b o e).2, (hp v hm).2⟩) fun o e => ?_
    have e' : some o = some (seqObj "list" (ts.map Value.ref).toArray 0) := e.symm.trans ha
    cases e'
    intro c
    exact absurd (Value.type.inj c) (by decide)
  · have h3 : out = (out.map adr).map Value.ref := out_refs fun v hv => by
      obtain ⟨t, _, rfl⟩ := List.mem_map.mp (hb.perm.mem_iff.mp hv)
      exact ⟨t, rfl⟩
    have hpm : (out.map adr).Perm ts := by
      have z := hb.perm.map adr
      rw [List.map_map, show (adr ∘ Value.ref) = id from rfl, List.map_id] at z
      exact z
    obtain ⟨ep, he'⟩ := PyProof.Rows.sortedAll_at s.heap (ts.map Value.ref) out.toArray
    have hlen : ((out.map adr).map V.ref).length ≤ sizeLine := by
      rw [List.length_map, hpm.length_eq]
      rw [List.length_map] at hz'
      exact hz'
    have hv : Vals ((out.map adr).map V.ref) out := by
      have z := of_refs (out.map adr)
      rw [← h3] at z
      exact z
    refine ⟨.ref _, upd H (s.heap.objs.size + 1) (.lst ((out.map adr).map V.ref)), I.laid (t' := s.toks) (fun _ _ => PyProof.Rows.sortedAll_old) (Nat.le_succ _) ⟨hlen, out, ep, hv, he'⟩, rfl, q _ _ hpm ?_ (I.hok.fresh (Nat.le_succ _))⟩
    refine List.pairwise_map.mpr (hs'.imp fun {x y} h => ?_)
    have b := of_decide_eq_false (p := TS.code B (k (adr y)) < TS.code B (k (adr x))) h
    omega
end
theorem slAK {X : Cx} (K : PySem.W.Frag) (h : X.K = K := by rfl) : SlR X (rSlA K) := by subst h; exact sl_tupA
theorem catAK {X : Cx} (K : PySem.W.Frag) (h : X.K = K := by rfl) : OpR X (binaryOp .Add) (rCatA K) := by subst h; exact op_catA
theorem sortTK {X : Cx} (K : PySem.W.Frag) (h : X.K = K := by rfl) : CallR X (.builtin "sorted") (rSortedTC K) := by subst h; exact cr_sortedTC
/-- tuples of ints at these addresses -/
def TupsAt (H : Hp) (ts : List Addr) (ls : List (List Int)) : Prop := ts.map H = ls.map fun l => some (HO.tup (l.map V.int))
theorem TupsAt.len {H : Hp} {ts : List Addr} {ls : List (List Int)} (h : TupsAt H ts ls) : ts.length = ls.length := by
  have := congrArg List.length h
  simpa using this
theorem TupsAt.nil (H : Hp) : TupsAt H [] [] := rfl
theorem TupsAt.add {H : Hp} {ts us : List Addr} {ls ms : List (List Int)} (h : TupsAt H ts ls) (k : TupsAt H us ms) : TupsAt H (ts ++ us) (ls ++ ms) := by
  unfold TupsAt at *
  rw [List.map_append, List.map_append, h, k]
theorem TupsAt.one {H : Hp} {t : Addr} {l : List Int} (h : H t = some (.tup (l.map V.int))) : TupsAt H [t] [l] := by
  show [H t] = _
  rw [h]; rfl
theorem TupsAt.get {H : Hp} {ts : List Addr} {ls : List (List Int)} (h : TupsAt H ts ls) {i : Nat} {t : Addr} (e : ts[i]? = some t) : ∃ l, ls[i]? = some l ∧ H t = some (.tup (l.map V.int)) := by
  have z : (ts.map H)[i]? = (ls.map fun l => some (HO.tup (l.map V.int)))[i]? := congrArg (·[i]?) h
  rw [List.getElem?_map, e, List.getElem?_map] at z
  cases q : ls[i]? with
  | none => rw [q] at z; cases z
  | some l => rw [q] at z; exact ⟨l, rfl, Option.some.inj z⟩
theorem TupsAt.mem {H : Hp} {ts : List Addr} {ls : List (List Int)} (h : TupsAt H ts ls) {t : Addr} (m : t ∈ ts) : ∃ l, l ∈ ls ∧ H t = some (.tup (l.map V.int)) := by
  obtain ⟨i, hi, e⟩ := List.mem_iff_getElem.mp m
  obtain ⟨l, q, r⟩ := h.get (i := i) (t := t) (by rw [List.getElem?_eq_getElem hi, e])
  exact ⟨l, List.mem_of_getElem? q, r⟩
theorem TupsAt.to {H H' : Hp} {ts : List Addr} {ls : List (List Int)} (h : TupsAt H ts ls) (k : ∀ t l, H t = some (.tup l) → H' t = some (.tup l)) : TupsAt H' ts ls := by
  have e : ts.map H' = ts.map H := List.map_congr_left fun t m => by
    obtain ⟨l, _, q⟩ := h.mem m
    rw [q, k _ _ q]
  unfold TupsAt
  rw [e]; exact h
theorem TupsAt.same {H H' : Hp} {ts : List Addr} {ls : List (List Int)} (h : TupsAt H ts ls) (s : Same H H') : TupsAt H' ts ls := h.to fun t l e => s _ _ e
theorem TupsAt.set {H : Hp} {ts : List Addr} {ls : List (List Int)} {p : Addr} {xs : List V} {o : HO} (h : TupsAt H ts ls) (e : H p = some (.lst xs)) : TupsAt (upd H p o) ts ls := h.to fun t l q => by
  rw [upd_ne fun z => by rw [z, e] at q; cases q]; exact q
def toI : V → Int
  | .int i => i
  | _ => 0
theorem toI_ints (l : List Int) : (l.map V.int).map toI = l := by
  rw [List.map_map]; exact List.map_id l
/-- the ints of the tuple at t -/
def tk (H : Hp) (t : Addr) : List Int := match H t with
  | some (.tup xs) => xs.map toI
  | _ => []
theorem tk_of {H : Hp} {t : Addr} {l : List Int} (h : H t = some (.tup (l.map V.int))) : tk H t = l := by
  unfold tk
  rw [h]; exact toI_ints l
theorem TupsAt.keys {H : Hp} {ts : List Addr} {ls : List (List Int)} (h : TupsAt H ts ls) : ts.map (tk H) = ls := by
  refine List.ext_getElem? fun i => ?_
  rw [List.getElem?_map]
  cases e : ts[i]? with
  | none =>
    have := List.getElem?_eq_none_iff.mp e
    rw [h.len] at this
    rw [List.getElem?_eq_none this]; rfl
  | some t =>
    obtain ⟨l, q, r⟩ := h.get e
    rw [q]
    exact congrArg some (tk_of r)
theorem TupsAt.perm {H : Hp} {ts us : List Addr} {ls : List (List Int)} (h : TupsAt H ts ls) (p : us.Perm ts) : ∃ ms, TupsAt H us ms ∧ ms.Perm ls := by
  refine ⟨us.map (tk H), ?_, by rw [← h.keys]; exact p.map _⟩
  unfold TupsAt
  rw [List.map_map]
  refine List.map_congr_left fun t m => ?_
  obtain ⟨l, _, q⟩ := h.mem (p.mem_iff.mp m)
  show H t = some (HO.tup ((tk H t).map V.int))
  rw [tk_of q]; exact q
theorem TupsAt.tat {H : Hp} {ts : List Addr} {ls : List (List Int)} {d : Nat} {B : Int} (h : TupsAt H ts ls) (g : ∀ l ∈ ls, l.length = d ∧ TS.Bd B l) : TAt H d B (tk H) ts := fun t m => by
  obtain ⟨l, hl, q⟩ := h.mem m
  rw [tk_of q]
  exact ⟨q, g l hl⟩
theorem take_by {K : PySem.W.Frag} {H : Hp} {Q : VK} {t : Addr} {l : List Int} {k : Nat} (e : H t = some (.tup (l.map V.int))) (q : ∀ H' p, Same H H' → H' p = some (.tup ((l.take k).map V.int)) → Q (.ref p) H') : rSlA K (.ref t) none (some (k : Int)) H Q := by
  refine ⟨t, _, rfl, SqT.of e, fun c => ?_, fun c p np => ?_⟩
  · have hk := c.2
    rw [HT.sIx_nat, List.length_map] at hk
    refine q H t (Same.refl _) ?_
    rw [List.take_of_length_le (by omega)]; exact e
  · refine q _ p (same_new np) ?_
    rw [upd_same]
    unfold cutV
    rw [HT.sIx_none, HT.sIx_nat, List.drop_zero, Nat.sub_zero, ← List.map_take, List.length_map]
    by_cases z : k ≤ l.length
    · rw [Nat.min_eq_left z]
    · rw [Nat.min_eq_right (by omega), List.take_of_length_le (Nat.le_refl _), List.take_of_length_le (by omega)]
theorem drop_by {K : PySem.W.Frag} {H : Hp} {Q : VK} {t : Addr} {l : List Int} {k : Nat} (e : H t = some (.tup (l.map V.int))) (q : ∀ H' p, Same H H' → H' p = some (.tup ((l.drop k).map V.int)) → Q (.ref p) H') : rSlA K (.ref t) (some (k : Int)) none H Q := by
  refine ⟨t, _, rfl, SqT.of e, fun c => ?_, fun c p np => ?_⟩
  · have hk := c.1
    rw [HT.sIx_nat, List.length_map] at hk
    refine q H t (Same.refl _) ?_
    by_cases z : k = 0
    · rw [z, List.drop_zero]; exact e
    · have z2 : l.length = 0 := by omega
      have z3 : l = [] := List.length_eq_zero_iff.mp z2
      rw [z3] at e ⊢
      rw [List.drop_nil]; exact e
  · refine q _ p (same_new np) ?_
    rw [upd_same]
    unfold cutV
    rw [HT.sIx_none, HT.sIx_nat, List.length_map, ← List.map_drop, ← List.map_take]
    by_cases z : k ≤ l.length
    · rw [Nat.min_eq_left z, List.take_of_length_le (by rw [List.length_drop]; exact Nat.le_refl _)]
    · rw [Nat.min_eq_right (by omega), Nat.sub_self, List.take_zero, List.drop_of_length_le (by omega)]
theorem cat_by {K : PySem.W.Frag} {H : Hp} {Q : VK} {a b : Addr} {l m : List Int} (ea : H a = some (.tup (l.map V.int))) (eb : H b = some (.tup (m.map V.int))) (hz : l.length + m.length ≤ sizeLine) (q : ∀ H' p, Same H H' → H' p = some (.tup ((l ++ m).map V.int)) → Q (.ref p) H') : rCatA K (.ref a) (.ref b) H Q := by
  refine ⟨a, b, _, _, rfl, rfl, SqT.of ea, SqT.of eb, by rw [List.length_map, List.length_map]; exact hz, fun c => ?_, fun c d => ?_, fun c d p np => ?_⟩
  · have z : l = [] := List.map_eq_nil_iff.mp c
    refine q H b (Same.refl _) ?_
    rw [z, List.nil_append]; exact eb
  · have z : m = [] := List.map_eq_nil_iff.mp d
    refine q H a (Same.refl _) ?_
    rw [z, List.append_nil]; exact ea
  · refine q _ p (same_new np) ?_
    rw [upd_same, List.map_append]
theorem get_ref {ts : List Addr} {j : Nat} {x : V} (h : (ts.map V.ref)[j]? = some x) : ∃ t, ts[j]? = some t ∧ x = .ref t := by
  rw [List.getElem?_map] at h
  cases e : ts[j]? with
  | none => rw [e] at h; cases h
  | some t => rw [e] at h; exact ⟨t, rfl, (Option.some.inj h).symm⟩
def scOf : Expr → Scope
  | .Compare _ _ (.ListComp _ _ sc _ :: _) _ => sc
  | _ => defScope (.Pass ⟨0, 0, 0, 0⟩)
def scIf : List Stmt → Scope
  | [_, .If t _ _ _] => scOf t
  | _ => defScope (.Pass ⟨0, 0, 0, 0⟩)
/-- the scope of the comprehension with one within, in the law's second statement -/
def scOuter (s : Stmt) : Scope := match (defBody s).getD 1 (.Pass ⟨0, 0, 0, 0⟩) with
  | .For _ _ b _ _ => scIf b
  | _ => defScope (.Pass ⟨0, 0, 0, 0⟩)
theorem piLK {X : Cx} {tg l : Expr} {tl : TE} (K : PySem.W.Frag) (hl : PE X l tl) (h : X.K = K := by rfl) : PI X tg l (iList K tl) := by subst h; exact pi_list hl
end Up

set_option Elab.async false
set_option linter.all false
set_option maxRecDepth 100000
set_option maxHeartbeats 4000000
namespace Up
open PySem PySem.Spec PyProof.Rows L2
/-- what a call in a generator's frame rests on -/
structure Low (K : PySem.W.Frag) (mg : Str → Option Value) (h : Heap) : Prop where
  kin : K.In h
  glob : h.Ns mainGlobals mg
  blt : ∃ mb, h.Ns builtinsNs mb ∧ ∀ x, x ≠ ("__name__" : Str) → mb x = bootBuiltins x
  lim : h.NoLimit
theorem Low.keeps {K : PySem.W.Frag} {mg : Str → Option Value} {h h' : Heap} (l : Low K mg h) (k : ∀ b o, h.get? b = some o → h'.get? b = some o) : Low K mg h' :=
  ⟨l.kin.keeps k, l.glob.keeps k, let ⟨mb, h1, h2⟩ := l.blt; ⟨mb, h1.keeps k, h2⟩, l.lim.keeps k⟩
section
variable {P : Program} {w : World} {A : Around} {E : Value → Shared → Prop} {K : PySem.W.Frag} {mg : Str → Option Value}
theorem low_glob {s : Shared} {env : Env} {x : Str} {u : Value} {pos : Pos} {Q : Value → Shared → Prop} (L : Low K mg s.heap) (hk : env.scope.kind = .function) (hg : env.scope.names.lookup x = some .globalImplicit) (hge : env.globals = mainGlobals) (hm : mg x = some u) (h : Q u s)
    (hd : (x == ("__debug__" : Str)) = false := by decide) : wpAny (model P w) A (eval (.Name x pos) env) Q E s :=
  Calls.Name_function_global hk hg (Calls.loadGlobal_global (by rw [hge]; exact L.glob) hm h) hd
theorem low_blt {s : Shared} {env : Env} {x : Str} {u : Value} {pos : Pos} {Q : Value → Shared → Prop} (L : Low K mg s.heap) (hk : env.scope.kind = .function) (hg : env.scope.names.lookup x = some .globalImplicit) (hge : env.globals = mainGlobals) (hbe : env.builtins = builtinsNs) (hm : mg x = none) (hv : bootBuiltins x = some u) (h : Q u s)
    (hn : x ≠ "__name__" := by decide) (hd : (x == ("__debug__" : Str)) = false := by decide) : wpAny (model P w) A (eval (.Name x pos) env) Q E s := by
  obtain ⟨mb, h1, h2⟩ := L.blt
  exact Calls.Name_function_global hk hg (Calls.loadGlobal_builtin (by rw [hge]; exact L.glob) hm (by rw [hbe]; exact h1) ((h2 x hn).trans hv) h) hd
theorem keeps_trans {s s1 s2 : Shared} (a : Keeps s s1) (b : Keeps s1 s2) : Keeps s s2 := by
  obtain ⟨h1, t1, rfl, k1⟩ := a
  obtain ⟨h2, t2, rfl, k2⟩ := b
  exact ⟨h2, t2, rfl, fun b o e => k2 b o (k1 b o e)⟩
theorem keeps_heap {s s1 : Shared} (a : Keeps s s1) : ∀ b o, s.heap.get? b = some o → s1.heap.get? b = some o := by
  obtain ⟨h1, t1, rfl, k1⟩ := a
  exact k1
/-- isinstance(x, T), x a local name -/
theorem low_isi {s : Shared} {env : Env} {x : Str} {u : Value} {T : String} {m : Str → Option Value} {p1 p2 p3 p4 : Pos} {Pz : Heap → Prop} {t : Value} {b : Bool} {Q : Value → Shared → Prop} (L : Low K mg s.heap) (hk : env.scope.kind = .function)
    (gi : env.scope.names.lookup ("isinstance" : Str) = some .globalImplicit) (gc : env.scope.names.lookup (Str.ofString T) = some .globalImplicit) (hx : env.scope.names.lookup x = some .local) (hge : env.globals = mainGlobals) (hbe : env.builtins = builtinsNs)
    (mi : mg "isinstance" = none) (mc : mg (Str.ofString T) = none) (bi : bootBuiltins "isinstance" = some (.builtin "isinstance")) (bc : bootBuiltins (Str.ofString T) = some (.type T)) (hn : s.heap.Ns env.locals m) (hm : m x = some u)
    (Z : PySem.W.KitX K u t Pz) (pz : Pz s.heap) (ho : u ≠ .builtin "__main__.__loader__#opaque") (e : PySem.W.kitOne K t (.type T) = some b) (q : ∀ tk, Q (.bool b) { s with toks := tk })
    (hnT : Str.ofString T ≠ "__name__") (hdT : (Str.ofString T == ("__debug__" : Str)) = false) (hdx : (x == ("__debug__" : Str)) = false) :
    wpAny (model P w) A (eval (.Call (.Name "isinstance" p1) [.Name x p2, .Name (Str.ofString T) p3] [] p4) env) Q E s := by
  refine wpAny_Call_Name_kw (low_blt L hk gi hge hbe mi bi ?_)
  refine PyProof.Rows.callWith_builtin1 ?_ (by rfl) (by rfl)
  show wpAny _ _ (spliced ((false, eval (.Name x p2) env) :: backTo p4 (starEach [.Name (Str.ofString T) p3] env))) _ _ s
  refine Calls.spliced_cons (wpAny_Name (wpAny_loadName_local hk hx hn hm ?_) hdx)
  show wpAny _ _ (spliced ((false, eval (.Name (Str.ofString T) p3) env) :: backTo p4 (starEach [] env))) _ _ s
  refine Calls.spliced_cons (low_blt L hk gc hge hbe mc bc ?_ hnT hdT)
  refine Calls.spliced_nil ?_
  exact PySem.W.kia_one Z L.kin pz e ho q
abbrev wholeBody (p1 p2 p3 p4 q1 q2 q3 q4 q5 r1 r2 : Pos) : List Stmt :=
  [.Return (some (.BoolOp .And [.Call (.Name "isinstance" p1) [.Name "thing" p2, .Name "int" p3] [] p4, .UnaryOp .Not (.Call (.Name "isinstance" q1) [.Name "thing" q2, .Name "bool" q3] [] q4) q5] r1)) r2]
/-- is_whole called from anywhere -/
theorem whole_low {s : Shared} {st : Stmt} {fd : FuncData} {u t : Value} {Pz : Heap → Prop} {b1 b2 : Bool} {Q : Value → Shared → Prop} {p1 p2 p3 p4 q1 q2 q3 q4 q5 r1 r2 : Pos} (F : FnT K "is_whole" st fd) (S : FnScope ["thing"] ["thing"] (defScope st)) (hbd : defBody st = wholeBody p1 p2 p3 p4 q1 q2 q3 q4 q5 r1 r2)
    (hb : ∀ (kV doc pm : Value) (an : Option Addr) (cdv ct : Value) (us : List Value), us.length = 1 → bindArgs (PySem.W.fnOf "is_whole" "is_whole" (defArgs st) (defBody st) (defScope st) .none kV doc pm an cdv ct) ⟨us, []⟩ = pure ((["thing"] : List Str).zip us))
    (gi : (defScope st).names.lookup ("isinstance" : Str) = some .globalImplicit) (gn : (defScope st).names.lookup ("int" : Str) = some .globalImplicit) (gb : (defScope st).names.lookup ("bool" : Str) = some .globalImplicit)
    (hl : (defScope st).names.lookup ("thing" : Str) = some .local) (mi : mg "isinstance" = none) (mn : mg "int" = none) (mb : mg "bool" = none)
    (L : Low K mg s.heap) (hd : A.depth < recursionLimit) (Z : PySem.W.KitX K u t Pz) (pz : ∀ h', (∀ b o, s.heap.get? b = some o → h'.get? b = some o) → Pz h') (ho : u ≠ .builtin "__main__.__loader__#opaque")
    (e1 : PySem.W.kitOne K t (.type "int") = some b1) (e2 : PySem.W.kitOne K t (.type "bool") = some b2) (q : ∀ s', Keeps s s' → Q (.bool (b1 && !b2)) s') : wpAny (model P w) A (call (.ref (He.ga K "is_whole")) [u]) Q E s := by
  obtain ⟨oc, od, dV, kV, doc, pm, an, cdv, ct, osl, rfl, lk, hcd, _, _⟩ := F.ex
  have hbb := F.bindsN (ps := ["thing"]) hb
  refine wpAny_call (codeAny_call_function hd (L.kin _ _ lk) rfl S.co S.gen rfl (PySem.W.codeRec_of L.kin hcd) ((hbb s [u] L.kin rfl) _ _ _ _ ?_))
  refine wpAny_newFunctionEnv_cells S.kind (fun y hy => .inl ?_) fun env he s1 x => ?_
  · have hy' : y = (("thing" : Str), u) := by simpa using hy
    rw [hy']; exact hl
  subst he
  refine ⟨L.lim.keeps x.toInCall.keep, codeAny_func ?_⟩
  have L1 := L.keeps x.toInCall.keep
  have hns := x.toInCall.ns
  obtain ⟨h1, tk, rfl, hk⟩ := x.done
  have hm : bindL (envOfC "is_whole" (defScope st) s.heap.objs.size (He.ga K "is_whole") cdv).kindOf ((["thing"] : List Str).zip [u]) (fun _ => none) "thing" = some u :=
    bindL_get (i := 0) (by decide) rfl rfl hl
  rw [hbd]
  refine wpAny_execs_cons (wpAny_Return_some (BoolOp_and (low_isi (T := "int") (b := b1) L1 S.kind gi gn hl rfl rfl mi mn (by decide +kernel) (by decide +kernel) hns hm Z (pz _ hk) ho e1 (fun tk1 => ?_) (by decide) (by decide) (by decide))))
  refine wpAny_truthy_bool ?_
  have kk : ∀ tk', Keeps s { s with heap := h1, toks := tk' } := fun tk' => ⟨h1, tk', rfl, hk⟩
  cases b1 with
  | false => exact q _ (kk _)
  | true =>
    refine BoolOp_one (UnaryOp_ (low_isi (T := "bool") (b := b2) (L1.keeps fun _ _ e => e) S.kind gi gb hl rfl rfl mi mb (by decide +kernel) (by decide +kernel) hns hm Z (pz _ hk) ho e2 (fun tk2 => ?_) (by decide) (by decide) (by decide)))
    exact not_of (wpAny_truthy_bool (q _ (kk _)))
end
end Up

set_option Elab.async false
set_option linter.all false
set_option maxRecDepth 100000
set_option maxHeartbeats 4000000
namespace Up
open PySem PySem.Spec PyProof.Rows L2
section
variable {X : Cx} {pins : List (Addr × Obj)} {σ : L2.St} {H : Hp} {s : Shared}
/-- an iterator that iter() lays: of n items, the i-th being Pf i -/
def Src (X : Cx) (P : Addr) (u : Value) (s1 : Shared) (n : Nat) (Pf : Nat → Value → Prop) : Prop :=
  ∃ (o : Obj) (fp : List Addr) (St : Nat → Heap → Prop),
    (∀ R : Value → Shared → Prop, R (.ref s1.heap.objs.size) { s1 with heap := s1.heap.push o } → wpAny (model X.prog X.w) X.A (pyIter u) R X.xe s1) ∧
    (∀ A' : Around, A'.handled = none → Walks X.prog X.w A' s1.heap.objs.size fp [s1.heap.objs.size] n Pf St) ∧
    (∀ b ∈ fp, b ≤ s1.heap.objs.size ∧ b ≠ P) ∧
    ∀ h' : Heap, (∀ b v, b ≠ P → (s1.heap.push o).get? b = some v → h'.get? b = some v) → St 0 h'
theorem src_tuple {a P : Addr} {xs : List V} {s1 : Shared} {H1 : Hp} (I : Inv X pins σ H1 s1) (hT : SqT X.K H1 a xs) (hP : ∃ ps, H1 P = some (.tbl ps)) : ∃ its, Vals xs its ∧ its.length ≤ sizeLine ∧ Src X P (.ref a) s1 xs.length (fun i v => its[i]? = some v) := by
  obtain ⟨its, r, ⟨ob, ho, hc, n, hd⟩, hz⟩ := I.tuple hT
  obtain ⟨ps, eP⟩ := hP
  have ePs : s1.heap.get? P = some { cls := .none, data := .fields ps } := I.hok P _ eP
  have al : a < s1.heap.objs.size := Heap.lt_size ho
  have aP : a ≠ P := fun e => by
    rw [e, ePs] at ho
    have e2 := Option.some.inj ho
    rw [← e2] at hc
    cases hc
  have Pl : P < s1.heap.objs.size := Heap.lt_size ePs
  refine ⟨its, r, by rw [← r.length]; exact hz, _, [s1.heap.objs.size, a], fun i h => h.IsTupleIter s1.heap.objs.size a i ∧ h.IsTuple a its.toArray, fun R h => wpAny_pyIter_tuple ⟨ob, ho, hc, n, hd⟩ h, fun A' hA => ?_, fun b hb => ?_, fun h' k => ?_⟩
  · have e : xs.length = its.toArray.size := by rw [List.size_toArray]; exact r.length
    rw [e]
    have W := Walks.tuple (prog := X.prog) (w := X.w) hA s1.heap.objs.size a (Nat.ne_of_lt al) its.toArray
    have ef : (fun (i : Nat) (v : Value) => its[i]? = some v) = fun i v => its.toArray[i]? = some v := by
      funext i v
      rw [List.getElem?_toArray]
    rw [ef]
    exact W
  · rcases List.mem_cons.mp hb with z | z
    · rw [z]; exact ⟨Nat.le_refl _, Nat.ne_of_gt Pl⟩
    · rw [List.mem_singleton.mp z]; exact ⟨Nat.le_of_lt al, aP⟩
  · exact ⟨⟨_, k _ _ (Nat.ne_of_gt Pl) (Heap.get?_push_size _ rfl), rfl, rfl⟩, ⟨ob, k _ _ aP (Heap.get?_push_of_some _ ho), hc, n, hd⟩⟩

/-- the tests and the element, for the i-th item v, wherever the generator runs -/
def Elt (X : Cx) (P : Addr) (s1 : Shared) (scope : Scope) (x : Str) (ifs : List Expr) (elt : Expr) (Pf : Nat → Value → Prop) (pz : Nat → Bool) (F : Nat → Value → Prop) : Prop :=
  ∀ (ce : Env) (B : Around) (E2 : Value → Shared → Prop) (i : Nat) (v : Value) (t : Shared) (m : Str → Option Value), B.handled = none → B.depth ≤ X.A.depth + 1 → B.units ≤ X.A.units + 8 →
    ce.scope = scope → ce.globals = mainGlobals → ce.builtins = builtinsNs → ce.cells = cloFrom X.env.cells scope.names [] → Pf i v → t.heap.Ns ce.locals m → m x = some v → (∀ b o, b ≠ P → s1.heap.get? b = some o → t.heap.get? b = some o) →
    wpAny (model X.prog X.w) B (forIn ifs true fun c r => if r = true then do let ok ← isTrue c ce (eval c ce); pure (ForInStep.yield ok) else pure (ForInStep.yield r)) (fun ok t' => ok = pz i ∧ Keeps t t') E2 t ∧
    (pz i = true → wpAny (model X.prog X.w) B (eval elt ce) (fun y t' => F i y ∧ Keeps t t') E2 t)
/-- the generator g stands ready -/
def Rdy (X : Cx) (pins : List (Addr × Obj)) (σ : L2.St) (H1 : Hp) (P : Addr) (n : Nat) (pz : Nat → Bool) (F : Nat → Value → Prop) (g : Addr) (s5 : Shared) : Prop :=
  ∃ (fp wr : List Addr) (G : Array GenState → Array GenState → Prop) (St : Nat → Shared → Prop), WalksS X.prog X.w X.A.in4 g fp wr G (passing pz n 0).length (fun j y => ∃ i, (passing pz n 0)[j]? = some i ∧ F i y) St ∧ St 0 s5 ∧
    (∀ b ∈ fp, b < s5.heap.objs.size) ∧ g ∈ fp ∧ (∀ i t, St i t → t.TypeIs (.ref g) "generator") ∧ ∀ s', Moved wr G s5 s' → ∃ H2, GxR.Tabbed P H1 H2 ∧ Inv X pins σ H2 s'
theorem gen_src0 {c P : Addr} {elt iter : Expr} {ifs : List Expr} {x : Str} {px gpos : Pos} {scope : Scope} {k : Nat} {Q' : Value → Shared → Prop} {Rr : Value → Hp → Shared → Prop}
    (hr : Room k X.A) (TB : GxR.TabB X.base X.mg c P) (hcode : X.env.code = .ref c) (S : GxR.GenS X.env scope x) (hs : ∀ v, genFold iter X.env v = pure v) (hev : wpAny (model X.prog X.w) X.A (eval iter X.env) (fun u s1 => ∃ H1, Inv X pins σ H1 s1 ∧ GxR.TabG H1 P ∧ Rr u H1 s1) X.xe s)
    (hQ : ∀ u H1 s1, Inv X pins σ H1 s1 → GxR.TabG H1 P → Rr u H1 s1 → ∃ n Pf pz F, Src X P u s1 n Pf ∧ Elt X P s1 scope x ifs elt Pf pz F ∧ ∀ g s5, Rdy X pins σ H1 P n pz F g s5 → Q' (.ref g) s5) :
    wpAny (model X.prog X.w) X.A (eval (.GeneratorExp elt [⟨.Name x px, iter, ifs, 0⟩] scope gpos) X.env) Q' X.xe s := by
  refine wpAny_GeneratorExp_walksQD hr.hd S.co (closure_ok S.free) S.cell S.dot S.loc S.kind (by have := hr.dp; omega) (wpAny_mono hev (fun xv s1 hv => ?_) fun _ _ e => e) hs
  obtain ⟨H1, I1, ⟨ps, hP, ht⟩, q1⟩ := hv
  obtain ⟨n, Pf, pz, F, ⟨o, fp, St, hit, W, hfp, hst⟩, hel, hq⟩ := hQ xv H1 s1 I1 ⟨ps, hP, ht⟩ q1
  refine hit _ ?_
  have ePs : s1.heap.get? P = some { cls := .none, data := .fields ps } := I1.hok P _ hP
  have lP : P < s1.heap.objs.size := Heap.lt_size ePs
  have eP2 : (s1.heap.push o).get? P = some { cls := .none, data := .fields ps } := Heap.get?_push_of_some _ ePs
  have ccd : PySem.W.CodeHd (s1.heap.push o) c P := TB.code.keeps fun b u e => Heap.get?_push_of_some _ (I1.bk b u e)
  have szp : (s1.heap.push o).objs.size = s1.heap.objs.size + 1 := Heap.size_push ..
  refine ⟨I1.nolimit.push o, ?_⟩
  -- the code object: its table may have grown
  have hcw : wpAny (model X.prog X.w) X.A (genexprCode X.env gpos (X.env.qual ++ "<genexpr>") scope) (fun _ s3 => ∃ h3 tk more, s3 = { s1 with heap := h3, toks := tk } ∧ Heap.ExtBut P (s1.heap.push o) h3 ∧ s1.heap.objs.size + 1 ≤ h3.objs.size ∧
      h3.get? P = some { cls := .none, data := .fields (ps ++ more) } ∧ TriplesOk (ps ++ more).toList) X.xe { s1 with heap := s1.heap.push o } := by
    cases hf : codeAmong gpos ps.toList with
    | none =>
      refine wpAny_genexprCodeX hcode (ccd.code eP2 ht) (ccd.tab eP2) hf fun c' h' tk hx hge hlt hco' _ htab' _ => ?_
      obtain ⟨_, _, _, _, _, _, _, _, _, _, _, _, _, _, _, _, _, _, _, trip, _⟩ := hco'
      rw [szp] at hge
      exact ⟨h', tk, _, rfl, hx, Nat.le_trans hge (Nat.le_of_lt hlt), htab'.2, trip⟩
    | some cv =>
      refine wpAny_genexprCode_hit hcode (ccd.code eP2 ht) hf ?_
      exact ⟨s1.heap.push o, s1.toks, #[], rfl, Heap.ExtBut.refl _ _, Nat.le_of_eq szp.symm, by rw [Array.append_empty]; exact eP2, by rw [Array.append_empty]; exact ht⟩
  refine wpAny_mono hcw (fun code s3 hc3 => ?_) fun _ _ e => e
  obtain ⟨h3, tk, more, rfl, hx, hsz, hP3, ht3⟩ := hc3
  obtain ⟨bm, ob, b1, b2, b3, b4, b5, b6, b7, b8⟩ := TB.bm
  have kp3 : ∀ b u, b ≠ P → s1.heap.get? b = some u → h3.get? b = some u := fun b u hb e => hx b u hb (Heap.get?_push_of_some _ e)
  have neP : cStatics ≠ P := fun e => by
    obtain ⟨_, ⟨o', es, ep, ho, hd, _⟩, _⟩ := I1.nolimit
    rw [e, ePs] at ho
    cases ho
    cases hd
  have ltS : cStatics < s1.heap.objs.size := let ⟨_, hns, _⟩ := I1.nolimit; hns.lt
  refine wpAny_builtinsFor (m := X.mg) (by rw [I1.ok.glob]; exact ((I1.mod.glob.keeps I1.bk).push o).extBut hx TB.gP) b1 b2 (kp3 _ _ b4 (I1.bk _ _ b5)) b6 b7 b8 ?_
  refine ⟨s1.heap.objs.size, fp, [s1.heap.objs.size], n, Pf, St, pz, F, rfl, W, hst h3 hx, fun b hb => ?_, (I1.nolimit.push o).extBut hx neP, fun z => absurd (List.mem_singleton.mp z) (Nat.ne_of_lt ltS), fun href hh => ?_, fun g h5 tk5 gs hgb hag hsz5 hk5 W5 hat => ?_⟩
  · exact Nat.lt_of_lt_of_le (Nat.lt_succ_of_le (hfp b hb).1) hsz
  · have keepT : ∀ (t : Shared), (∀ b ∈ List.range h3.objs.size, b ∉ [s1.heap.objs.size] → ∀ u, href.get? b = some u → t.heap.get? b = some u) → ∀ b u, b ≠ P → s1.heap.get? b = some u → t.heap.get? b = some u := fun t kt b u hb e => by
      have lb : b < s1.heap.objs.size := Heap.lt_size e
      exact kt b (List.mem_range.mpr (Nat.lt_of_lt_of_le lb (Nat.le_of_succ_le hsz))) (fun z => Nat.ne_of_lt lb (List.mem_singleton.mp z)) u (hh b u (kp3 b u hb e))
    refine ⟨fun A' E' i v t m hA hD hU hPv hn hm kt => ?_, fun A' E' i v t m hA hD hU hPv hp hn hm kt => ?_⟩
    · exact (hel (genEnv scope (cloFrom X.env.cells scope.names []) h3.objs.size code builtinsNs X.env) A' E' i v t m hA hD hU rfl I1.ok.glob rfl rfl hPv hn hm (keepT t kt)).1
    · exact (hel (genEnv scope (cloFrom X.env.cells scope.names []) h3.objs.size code builtinsNs X.env) A' E' i v t m hA hD hU rfl I1.ok.glob rfl rfl hPv hn hm (keepT t kt)).2 hp
  · refine hq g _ ⟨_, _, _, _, W5, hat, fun b hb => ?_, List.mem_cons_self, fun i t ht9 => ?_, fun s' hm => ?_⟩
    · show b < h5.objs.size
      rcases List.mem_cons.mp hb with z | z
      · rw [z, hsz5]; exact Nat.lt_succ_self g
      · rcases List.mem_cons.mp z with z | z
        · rw [z, hsz5]; exact Nat.lt_succ_of_lt hag
        · rw [hsz5]; exact Nat.lt_succ_of_lt (Nat.lt_trans (List.mem_range.mp z) hag)
    · exact Heap.IsGen.typeIs ht9.1
    · have nwr : ∀ b u, s1.heap.get? b = some u → b ∉ h3.objs.size :: [s1.heap.objs.size] := fun b u e hb => by
        have lb := Heap.lt_size e
        rcases List.mem_cons.mp hb with z | z
        · rw [z] at lb
          exact absurd (Nat.lt_of_lt_of_le lb (Nat.le_of_succ_le hsz)) (Nat.lt_irrefl _)
        · rw [List.mem_singleton.mp z] at lb
          exact Nat.lt_irrefl _ lb
      have J := GxR.inv_tab (more := more) (h' := s'.heap) (g' := s'.gens) (d' := s'.drawn) (t' := s'.toks) I1 hP (fun b u hb e => hm.heap b u (nwr b u e) (hk5 b u (kp3 b u hb e)))
        (hm.heap P _ (nwr P _ ePs) (hk5 P _ hP3)) (AllBare.movedS (I1.bare.push hgb) hm)
      rw [GxR.sh_eta s1 s' hm.os] at J
      exact ⟨upd H1 P (.tbl (ps ++ more)), ⟨⟨ps ++ more, upd_same, ht3⟩, fun b hb => upd_ne hb⟩, J⟩
theorem gen_src {c P : Addr} {elt iter : Expr} {ifs : List Expr} {x : Str} {px gpos : Pos} {scope : Scope} {te : TE} {k : Nat} {Q' : Value → Shared → Prop} {R : V → Hp → Prop}
    (hr : Room k X.A) (TB : GxR.TabB X.base X.mg c P) (hcode : X.env.code = .ref c) (S : GxR.GenS X.env scope x) (hi : PE X iter te) (hs : ∀ v, genFold iter X.env v = pure v) (I : Inv X pins σ H s) (h : te σ H fun v H1 => GxR.TabG H1 P ∧ R v H1)
    (hQ : ∀ v u H1 s1, Inv X pins σ H1 s1 → RelV v u → GxR.TabG H1 P → R v H1 → ∃ n Pf pz F, Src X P u s1 n Pf ∧ Elt X P s1 scope x ifs elt Pf pz F ∧ ∀ g s5, Rdy X pins σ H1 P n pz F g s5 → Q' (.ref g) s5) :
    wpAny (model X.prog X.w) X.A (eval (.GeneratorExp elt [⟨.Name x px, iter, ifs, 0⟩] scope gpos) X.env) Q' X.xe s :=
  gen_src0 (Rr := fun u H1 _ => ∃ v, RelV v u ∧ R v H1) hr TB hcode S hs (thn (hi.run pins s σ H _ I h) fun _ _ ⟨v, H1, I1, r1, ht, q1⟩ => ⟨H1, I1, ht, v, r1, q1⟩) fun u H1 s1 I1 ht ⟨v, r1, q1⟩ => hQ v u H1 s1 I1 r1 ht q1
/-- what stands in the text stands wherever the generator runs -/
theorem low_at {P : Addr} {ps : Array Value} {H1 : Hp} {s1 : Shared} {h' : Heap} (I : Inv X pins σ H1 s1) (hP : H1 P = some (.tbl ps)) (k : ∀ b o, b ≠ P → s1.heap.get? b = some o → h'.get? b = some o) : Low X.K X.mg h' := by
  have kb : ∀ b o, X.base.get? b = some o → h'.get? b = some o := fun b o e => k b o (fun z => by
    have q := (I.bs b o e).2
    rw [z, hP] at q
    cases q) (I.bk b o e)
  exact Low.keeps ⟨I.mod.kin, I.mod.glob, I.mod.blt, I.mod.nolimit⟩ kb
/-- an item of which it is known whether it is whole -/
def Known (X : Cx) (P : Addr) (s1 : Shared) (v : Value) (b : Bool) : Prop :=
  ∃ (t : Value) (Pz : Heap → Prop) (b1 b2 : Bool), PySem.W.KitX X.K v t Pz ∧ (∀ h', (∀ a o, a ≠ P → s1.heap.get? a = some o → h'.get? a = some o) → Pz h') ∧ v ≠ .builtin "__main__.__loader__#opaque" ∧ PySem.W.kitOne X.K t (.type "int") = some b1 ∧ PySem.W.kitOne X.K t (.type "bool") = some b2 ∧ b = (b1 && !b2)
theorem elt_whole {P : Addr} {ps : Array Value} {H1 : Hp} {s1 : Shared} {scope : Scope} {x : Str} {Pf : Nat → Value → Prop} {ws : List Bool} {st : Stmt} {fd : FuncData} {k : Nat} {a1 a2 a3 p1 p2 p3 p4 q1 q2 q3 q4 q5 r1 r2 : Pos} (I : Inv X pins σ H1 s1) (hP : H1 P = some (.tbl ps)) (hr : Room k X.A)
    (F : FnT X.K "is_whole" st fd) (S : FnScope ["thing"] ["thing"] (defScope st)) (hbd : defBody st = wholeBody p1 p2 p3 p4 q1 q2 q3 q4 q5 r1 r2)
    (hb : ∀ (kV doc pm : Value) (an : Option Addr) (cdv ct : Value) (us : List Value), us.length = 1 → bindArgs (PySem.W.fnOf "is_whole" "is_whole" (defArgs st) (defBody st) (defScope st) .none kV doc pm an cdv ct) ⟨us, []⟩ = pure ((["thing"] : List Str).zip us))
    (gi : (defScope st).names.lookup ("isinstance" : Str) = some .globalImplicit) (gn : (defScope st).names.lookup ("int" : Str) = some .globalImplicit) (gb : (defScope st).names.lookup ("bool" : Str) = some .globalImplicit)
    (hl : (defScope st).names.lookup ("thing" : Str) = some .local) (mi : X.mg "isinstance" = none) (mn : X.mg "int" = none) (mb : X.mg "bool" = none) (mw : X.mg "is_whole" = some (.ref (He.ga X.K "is_whole")))
    (hk : scope.kind = .function) (gw : scope.names.lookup ("is_whole" : Str) = some .globalImplicit) (hx : scope.names.lookup x = some .local) (hdx : (x == ("__debug__" : Str)) = false)
    (kn : ∀ i v, Pf i v → ∃ b, ws[i]? = some b ∧ Known X P s1 v b) :
    Elt X P s1 scope x [] (.Call (.Name "is_whole" a1) [.Name x a2] [] a3) Pf (fun _ => true) (fun i y => ∃ b, ws[i]? = some b ∧ y = .bool b) := by
  intro ce B E2 i v t m hB hD hU sc ge be cl hv hn hm kt
  subst sc
  refine ⟨?_, fun _ => ?_⟩
  · simp only [List.forIn_nil]
    exact wpAny_pure ⟨rfl, GxR.keeps_refl _⟩
  · obtain ⟨b, hw, tt, Pz, b1, b2, Z, pz, ho, e1, e2, rfl⟩ := kn i v hv
    have L := low_at I hP kt
    obtain ⟨oc, od, dV, kV, doc, pm, an, cdv, ct, osl, efd, lk, hcd, _, _⟩ := F.ex
    refine wpAny_Call_Name_kw (low_glob L hk gw ge mw ?_)
    have lk2 : X.K.lookup (He.ga X.K "is_whole") = some { cls := oc, dict := od, data := .func fd, slots := osl } := lk
    refine PyProof.Rows.callWith_def (o := { cls := oc, dict := od, data := .func fd, slots := osl }) (fd := fd) rfl ?_
    show wpAny _ _ (spliced ((false, eval (.Name x a2) ce) :: backTo a3 (starEach [] ce))) _ _ t
    refine Calls.spliced_cons (wpAny_Name (wpAny_loadName_local hk hx hn hm ?_) hdx)
    refine Calls.spliced_nil ⟨L.kin _ _ lk2, ?_⟩
    have rd := hr.dp
    exact whole_low F S hbd hb gi gn gb hl mi mn mb L (by omega) Z (fun h' k => pz h' fun a o na e => k a o (kt a o na e)) ho e1 e2 fun s' ks => ⟨⟨_, hw, rfl⟩, ks⟩
theorem all_getD (ws : List Bool) : (List.range ws.length).all (fun j => ws.getD j false) = ws.all id := by
  rw [Bool.eq_iff_iff, List.all_eq_true, List.all_eq_true]
  constructor
  · intro h b hb
    obtain ⟨j, hj, e⟩ := List.getElem_of_mem hb
    have q := h j (List.mem_range.mpr hj)
    rw [List.getD_eq_getElem?_getD, List.getElem?_eq_getElem hj, e] at q
    exact q
  · intro h j hj
    have hj' := List.mem_range.mp hj
    rw [List.getD_eq_getElem?_getD, List.getElem?_eq_getElem hj']
    exact h _ (List.getElem_mem hj')
/-- all(..) of a generator of truths that stands ready -/
theorem all_of {P : Addr} {H1 : Hp} {ws : List Bool} {g : Addr} {s5 : Shared} {Q : VK} (rd : Rdy X pins σ H1 P ws.length (fun _ => true) (fun i y => ∃ b, ws[i]? = some b ∧ y = .bool b) g s5) (q : ∀ H2, GxR.Tabbed P H1 H2 → Q (.bl (ws.all id)) H2) :
    wpAny (model X.prog X.w) X.A (call (.builtin "all") [.ref g]) (EP X pins σ Q) X.xe s5 := by
  obtain ⟨fp, wr, G, St, W, hst, hfp, hg, hty, hI⟩ := rd
  simp only [GxR.passing_true, List.length_range] at W
  refine call_all_walkS (W.in4_1.self 0 _ _ _ hst ⟨g, fp, wr, G, _, _, St, (fun j => ws.getD j false), rfl, W.in4_1, hst, ?_, fun s' hmv => ?_⟩)
  · intro j y sj Qj Ej hy hQj
    obtain ⟨i, hij, b, hb, rfl⟩ := hy
    obtain ⟨hj, ej⟩ := List.getElem?_eq_some_iff.mp hij
    rw [List.getElem_range] at ej
    subst ej
    have hQ2 : Qj (ws.getD j false) sj := hQj
    rw [List.getD_eq_getElem?_getD, hb] at hQ2
    exact wpAny_truthy_bool hQ2
  · obtain ⟨H2, hT, J⟩ := hI s' hmv
    refine ⟨.bl _, H2, J, rfl, ?_⟩
    rw [all_getD ws]
    exact q H2 hT
/-- is it a whole number: told of a value whose kind is known -/
inductive WholeV (H : Hp) (P : Addr) : V → Bool → Prop where
  | int (i : Int) : WholeV H P (.int i) true
  | bl (b : Bool) : WholeV H P (.bl b) false
  | str (z : Str) : WholeV H P (.str z) false
  | non : WholeV H P .non false
  | lst {a : Addr} {xs : List V} (h : H a = some (.lst xs)) (n : a ≠ P) : WholeV H P (.ref a) false
  | tup {a : Addr} {xs : List V} (h : H a = some (.tup xs)) (n : a ≠ P) : WholeV H P (.ref a) false
theorem known_of {P : Addr} {H1 : Hp} {s1 : Shared} {x : V} {u : Value} {b : Bool} (I : Inv X pins σ H1 s1) (r : RelV x u) (h : WholeV H1 P x b) : Known X P s1 u b := by
  cases h with
  | int i => obtain ⟨t, rfl⟩ := r; exact ⟨_, _, true, false, PySem.W.kitx_int, fun _ _ => trivial, fun z => (nomatch z), kit_ty (by decide +kernel), kit_ty (by decide +kernel), rfl⟩
  | bl c => cases r; exact ⟨_, _, true, true, PySem.W.kitx_bool, fun _ _ => trivial, fun z => (nomatch z), kit_ty (by decide +kernel), kit_ty (by decide +kernel), rfl⟩
  | str z => obtain ⟨t, rfl⟩ := r; exact ⟨_, _, false, false, PySem.W.kitx_str, fun _ _ => trivial, fun z => (nomatch z), kit_ty (by decide +kernel), kit_ty (by decide +kernel), rfl⟩
  | non => cases r; exact ⟨_, _, false, false, PySem.W.kitx_none, fun _ _ => trivial, fun z => (nomatch z), kit_ty (by decide +kernel), kit_ty (by decide +kernel), rfl⟩
  | @lst a xs h n =>
    obtain rfl : u = Value.ref a := r
    obtain ⟨_, its, _, k, ho⟩ := I.hok _ _ h
    exact ⟨_, _, false, false, PySem.W.kitx_list, fun h' k => ⟨_, k _ _ n ho, rfl⟩, fun z => (nomatch z), kit_ty (by decide +kernel), kit_ty (by decide +kernel), rfl⟩
  | @tup a xs h n =>
    obtain rfl : u = Value.ref a := r
    obtain ⟨_, its, _, o, ho, hc, _⟩ := I.hok _ _ h
    exact ⟨_, _, false, false, PySem.W.kitx_tuple, fun h' k => ⟨o, k _ _ n ho, hc⟩, fun z => (nomatch z), kit_ty (by decide +kernel), kit_ty (by decide +kernel), rfl⟩
/-- all(is_whole(x) for x in e), e a tuple; behind it the def's table may have grown -/
def tAllW (K : PySem.W.Frag) (P : Addr) (te : TE) : TE := fun σ H Q => te σ H fun v H1 => GxR.TabG H1 P ∧ ∃ (a : Addr) (xs : List V) (ws : List Bool), v = .ref a ∧ SqT K H1 a xs ∧ ws.length = xs.length ∧ (∀ (i : Nat) (y : V), xs[i]? = some y → ∃ b, ws[i]? = some b ∧ WholeV H1 P y b) ∧ ∀ H2, GxR.Tabbed P H1 H2 → Q (.bl (ws.all id)) H2
theorem pe_allW {c P : Addr} {iter : Expr} {x : Str} {px p pos gpos a1 a2 a3 p1 p2 p3 p4 q1 q2 q3 q4 q5 r1 r2 : Pos} {scope : Scope} {te : TE} {k : Nat} {st : Stmt} {fd : FuncData}
    (hr : Room k X.A) (hg : Gl X "all") (hm : X.mg "all" = none) (TB : GxR.TabB X.base X.mg c P) (hcode : X.env.code = .ref c) (S : GxR.GenS X.env scope x) (hi : PE X iter te) (hs : ∀ v, genFold iter X.env v = pure v)
    (F : FnT X.K "is_whole" st fd) (W : FnScope ["thing"] ["thing"] (defScope st)) (hbd : defBody st = wholeBody p1 p2 p3 p4 q1 q2 q3 q4 q5 r1 r2)
    (hb : ∀ (kV doc pm : Value) (an : Option Addr) (cdv ct : Value) (us : List Value), us.length = 1 → bindArgs (PySem.W.fnOf "is_whole" "is_whole" (defArgs st) (defBody st) (defScope st) .none kV doc pm an cdv ct) ⟨us, []⟩ = pure ((["thing"] : List Str).zip us))
    (gi : (defScope st).names.lookup ("isinstance" : Str) = some .globalImplicit) (gn : (defScope st).names.lookup ("int" : Str) = some .globalImplicit) (gb : (defScope st).names.lookup ("bool" : Str) = some .globalImplicit)
    (hl : (defScope st).names.lookup ("thing" : Str) = some .local) (mi : X.mg "isinstance" = none) (mn : X.mg "int" = none) (mb : X.mg "bool" = none) (mw : X.mg "is_whole" = some (.ref (He.ga X.K "is_whole")))
    (gw : scope.names.lookup ("is_whole" : Str) = some .globalImplicit) (hdx : (x == ("__debug__" : Str)) = false := by decide) (hbl : bootBuiltins "all" = some (.builtin "all") := by decide +kernel)
    (he : starEach [.GeneratorExp (.Call (.Name "is_whole" a1) [.Name x a2] [] a3) [⟨.Name x px, iter, [], 0⟩] scope gpos] X.env = (false, eval (.GeneratorExp (.Call (.Name "is_whole" a1) [.Name x a2] [] a3) [⟨.Name x px, iter, [], 0⟩] scope gpos) X.env) :: starEach [] X.env := by rfl) :
    PE X (.Call (.Name "all" p) [.GeneratorExp (.Call (.Name "is_whole" a1) [.Name x a2] [] a3) [⟨.Name x px, iter, [], 0⟩] scope gpos] [] pos) (tAllW X.K P te) := by
  refine ⟨fun pins s σ H Q I h => ?_⟩
  refine wpAny_Call_Name_kw (ld_blt I hg hm hbl ?_)
  refine PyProof.Rows.callWith_builtin1 ?_ he (by rfl)
  rw [he]
  show wpAny _ _ (spliced ((false, eval (.GeneratorExp (.Call (.Name "is_whole" a1) [.Name x a2] [] a3) [⟨.Name x px, iter, [], 0⟩] scope gpos) X.env) :: backTo pos (starEach [] X.env))) _ _ s
  refine Calls.spliced_cons (gen_src hr TB hcode S hi hs I h fun v u H1 s1 I1 r1 ht hv => ?_)
  obtain ⟨ps, hP, _⟩ := ht
  obtain ⟨a, xs, ws, rfl, hT, lw, kn, q⟩ := hv
  obtain rfl : u = Value.ref a := r1
  obtain ⟨its, rv, hz, src⟩ := src_tuple I1 hT ⟨ps, hP⟩
  refine ⟨xs.length, _, fun _ => true, fun i y => ∃ b, ws[i]? = some b ∧ y = .bool b, src, elt_whole I1 hP hr F W hbd hb gi gn gb hl mi mn mb mw S.kind gw S.loc hdx (fun i v hv => ?_), fun g s5 rd => ?_⟩
  · have li : i < xs.length := by
      rw [rv.length]
      exact (List.getElem?_eq_some_iff.mp hv).1
    obtain ⟨u, hu, ru⟩ := rv.get (List.getElem?_eq_getElem li)
    rw [hv] at hu
    obtain rfl := Option.some.inj hu
    obtain ⟨b, hb2, wv⟩ := kn i _ (List.getElem?_eq_getElem li)
    exact ⟨b, hb2, known_of I1 ru wv⟩
  · rw [← lw] at rd
    exact Calls.spliced_nil (all_of rd q)
/-- the items of a walk are these -/
theorem items_are {n : Nat} {pz : Nat → Bool} {F : Nat → Value → Prop} {f : Nat → V} {acc : Array Value} (h : ItemsOf (fun j y => ∃ i, (passing pz n 0)[j]? = some i ∧ F i y) acc (passing pz n 0).length) (hF : ∀ i y, i < n → F i y → RelV (f i) y) :
    Vals ((passing pz n 0).map f) acc.toList := by
  obtain ⟨hs, hi⟩ := h
  have key : ∀ (ps : List Nat) (vs : List Value), vs.length = ps.length → (∀ (j : Nat) (v : Value), vs[j]? = some v → ∃ i, ps[j]? = some i ∧ F i v) → (∀ i ∈ ps, i < n) → Vals (ps.map f) vs := by
    intro ps
    induction ps with
    | nil =>
      intro vs hl _ _
      cases vs with
      | nil => exact .nil
      | cons v vs => simp at hl
    | cons p ps ih =>
      intro vs hl h hn
      cases vs with
      | nil => simp at hl
      | cons v vs =>
        obtain ⟨i, e1, e2⟩ := h 0 v rfl
        obtain rfl : p = i := Option.some.inj e1
        exact .cons (hF _ _ (hn _ List.mem_cons_self) e2) (ih vs (by simpa using hl) (fun j u e => h (j + 1) u e) fun i m => hn i (List.mem_cons_of_mem _ m))
  refine key _ _ (by rw [Array.length_toList]; exact hs) (fun j v e => hi j v (by rw [← Array.getElem?_toList]; exact e)) fun i m => ?_
  unfold passing at m
  have m2 := (List.mem_filter.mp m).1
  simp at m2
  omega
/-- tuple(..) of a generator that stands ready -/
theorem tup_of {P : Addr} {H1 : Hp} {n : Nat} {pz : Nat → Bool} {F : Nat → Value → Prop} {f : Nat → V} {g : Addr} {s5 : Shared} {Q : VK} (rd : Rdy X pins σ H1 P n pz F g s5) (hF : ∀ i y, i < n → F i y → RelV (f i) y) (hz : n ≤ sizeLine)
    (q : ∀ H2 p ob, ob.dict = none → GxR.Tabbed P H1 H2 → H2 p = none → Q (.ref p) (upd H2 p (.frz ob (.tup ((passing pz n 0).map f))))) :
    wpAny (model X.prog X.w) X.A (call (.type "tuple") [.ref g]) (EP X pins σ Q) X.xe s5 := by
  obtain ⟨fp, wr, G, St, W, hst, hfp, hg, hty, hI⟩ := rd
  have hl : (passing pz n 0).length ≤ sizeLine := by
    refine Nat.le_trans ?_ hz
    unfold passing
    exact Nat.le_trans (List.length_filter_le _ _) (by simp)
  refine call_tuple_gen (hsz := hl) W.in4_3 hty hst hfp hg fun s' acc hm hacc => ?_
  obtain ⟨H2, hT, J⟩ := hI s' hm
  have hn : H2 s'.heap.objs.size = none := J.hok.fresh (Nat.le_refl _)
  refine ⟨.ref s'.heap.objs.size, _, J.laid (t' := s'.toks) (o := .frz { cls := .type "tuple", data := .seq acc 0 } (.tup ((passing pz n 0).map f))) (fun b ob e => Heap.get?_push_of_some _ e) (Nat.le_refl _) ?_, rfl, q _ _ _ rfl hT hn⟩
  refine ⟨Heap.get?_push_size _ rfl, by rw [List.length_map]; exact hl, acc.toList, items_are hacc hF, ?_⟩
  exact ⟨{ cls := .type "tuple", data := .seq acc 0 }, Heap.get?_push_size _ rfl, rfl, 0, by rw [Array.toArray_toList]⟩
end
end Up

set_option Elab.async false
set_option linter.all false
set_option maxRecDepth 100000
set_option maxHeartbeats 4000000
namespace Up
open PySem PySem.Spec PyProof.Rows L2
section
variable {X : Cx} {pins : List (Addr × Obj)} {σ : L2.St} {H1 : Hp} {P : Addr} {s1 : Shared} {scope : Scope} {x : Str} {v : Value}
/-- a generator's frame, at its item v -/
structure FrOk (X : Cx) (P : Addr) (s1 : Shared) (scope : Scope) (x : Str) (v : Value) (ce : Env) (B : Around) (t : Shared) : Prop where
  hd : B.handled = none
  dp : B.depth ≤ X.A.depth + 1
  un : B.units ≤ X.A.units + 8
  sc : ce.scope = scope
  ge : ce.globals = mainGlobals
  be : ce.builtins = builtinsNs
  cl : ce.cells = cloFrom X.env.cells scope.names []
  ns : ∃ m, t.heap.Ns ce.locals m ∧ m x = some v
  kt : ∀ b o, b ≠ P → s1.heap.get? b = some o → t.heap.get? b = some o
theorem FrOk.keeps {ce : Env} {B : Around} {t t' : Shared} (f : FrOk X P s1 scope x v ce B t) (k : Keeps t t') : FrOk X P s1 scope x v ce B t' :=
  ⟨f.hd, f.dp, f.un, f.sc, f.ge, f.be, f.cl, let ⟨m, h1, h2⟩ := f.ns; ⟨m, h1.keeps (keeps_heap k), h2⟩, fun b o n e => keeps_heap k b o (f.kt b o n e)⟩
/-- in the frame e comes to this value; nothing that stood is written -/
def LE (X : Cx) (P : Addr) (s1 : Shared) (scope : Scope) (x : Str) (v : Value) (e : Expr) (val : V) : Prop :=
  ∀ (ce : Env) (B : Around) (E2 : Value → Shared → Prop) (t : Shared), FrOk X P s1 scope x v ce B t → wpAny (model X.prog X.w) B (eval e ce) (fun y t' => RelV val y ∧ Keeps t t') E2 t
/-- a test in the frame -/
def LT (X : Cx) (P : Addr) (s1 : Shared) (scope : Scope) (x : Str) (v : Value) (e : Expr) (b : Bool) : Prop :=
  ∀ (ce : Env) (B : Around) (E2 : Value → Shared → Prop) (t : Shared), FrOk X P s1 scope x v ce B t → wpAny (model X.prog X.w) B (isTrue e ce (eval e ce)) (fun y t' => y = b ∧ Keeps t t') E2 t
theorem kp_tok (t : Shared) (k : Nat) : Keeps t { t with toks := k } := GxR.keeps_tok t k
theorem le_item {p : Pos} {val : V} (hk : scope.kind = .function) (hl : scope.names.lookup x = some .local) (r : RelV val v) (hd : (x == ("__debug__" : Str)) = false := by decide) : LE X P s1 scope x v (.Name x p) val := by
  intro ce B E2 t f
  obtain ⟨m, h1, h2⟩ := f.ns
  have e := f.sc
  subst e
  exact wpAny_Name (wpAny_loadName_local hk hl h1 h2 ⟨r, GxR.keeps_refl _⟩) hd
/-- a name captured from the def -/
theorem le_free {y : Str} {i : Nat} {val : V} {ps : Array Value} {p : Pos} (I : Inv X pins σ H1 s1) (hP : H1 P = some (.tbl ps)) (S : GxR.GenS X.env scope x) (hN : X.N[i]? = some y) (hσ : σ[i]? = some (some val)) (hc : X.env.kindOf y = some .cell) (hf : scope.names.lookup y = some .free)
    (hd : (y == ("__debug__" : Str)) = false := by decide) (hcd : (y == ("__classdict__" : Str)) = false := by decide) : LE X P s1 scope x v (.Name y p) val := by
  intro ce B E2 t f
  obtain ⟨m, hn, hl⟩ := I.loc
  obtain ⟨u, r, l⟩ := hl i y val hN hσ (Or.inr (Or.inl hc))
  rcases l with ⟨z, _⟩ | ⟨_, c, hcl, hcell⟩
  · rw [hc] at z; cases z
  · have e := f.sc
    subst e
    have hm : (y, NameKind.free) ∈ ce.scope.names := mem_of_lookup hf
    have hlk : ce.cells.lookup y = some c := by rw [f.cl]; exact NdefX.clo_has S.free hm hcl
    have ePs : s1.heap.get? P = some { cls := .none, data := .fields ps } := I.hok P _ hP
    obtain ⟨o, ho, hdv⟩ := hcell
    have cP : c ≠ P := fun z => by
      rw [z, ePs] at ho
      cases ho
      cases hdv
    exact wpAny_Name (wpAny_loadName_free S.kind hf hlk ⟨o, f.kt c o cP ho, hdv⟩ ⟨r, GxR.keeps_refl _⟩ hcd) hd
theorem le_int {i : Int} {j : Nat} {p : Pos} : LE X P s1 scope x v (.Constant (.int i) j p) (.int i) := by
  intro ce B E2 t f
  exact wpAny_Constant_int ⟨⟨_, rfl⟩, kp_tok _ _⟩
theorem le_bin {op : Operator} {g : Int → Int → Int} {a b : Expr} {i j : Int} {p : Pos} (ru : ∀ (B : Around) (E2 : Value → Shared → Prop) (i j : Int) (t u : Tok) (s : Shared) (Q : Value → Shared → Prop), Q (.int (g i j) s.toks) { s with toks := s.toks + 1 } → wpAny (model X.prog X.w) B (binaryOp op (.int i t) (.int j u)) Q E2 s)
    (ha : LE X P s1 scope x v a (.int i)) (hb : LE X P s1 scope x v b (.int j)) : LE X P s1 scope x v (.BinOp a op b p) (.int (g i j)) := by
  intro ce B E2 t f
  refine wpAny_BinOp (wpAny_mono (ha ce B E2 t f) (fun y t1 h => ?_) fun _ _ e => e)
  obtain ⟨⟨k1, rfl⟩, q1⟩ := h
  refine wpAny_mono (hb ce B E2 t1 (f.keeps q1)) (fun z t2 h => ?_) fun _ _ e => e
  obtain ⟨⟨k2, rfl⟩, q2⟩ := h
  exact ru B E2 i j k1 k2 t2 _ ⟨⟨_, rfl⟩, keeps_trans (keeps_trans q1 q2) (kp_tok _ _)⟩
theorem le_add {a b : Expr} {i j : Int} {p : Pos} (ha : LE X P s1 scope x v a (.int i)) (hb : LE X P s1 scope x v b (.int j)) : LE X P s1 scope x v (.BinOp a .Add b p) (.int (i + j)) :=
  le_bin (fun _ _ _ _ _ _ _ _ q => add_int q) ha hb
theorem le_sub {a b : Expr} {i j : Int} {p : Pos} (ha : LE X P s1 scope x v a (.int i)) (hb : LE X P s1 scope x v b (.int j)) : LE X P s1 scope x v (.BinOp a .Sub b p) (.int (i - j)) :=
  le_bin (fun _ _ _ _ _ _ _ _ q => sub_int q) ha hb
theorem lt_cmp {op : CmpOp} {g : Int → Int → Bool} {a b : Expr} {i j : Int} {p : Pos} (ru : ∀ (B : Around) (E2 : Value → Shared → Prop) (i j : Int) (t u : Tok) (s : Shared) (Q : Value → Shared → Prop), Q (.bool (g i j)) s → wpAny (model X.prog X.w) B (compareOp op (.int i t) (.int j u)) Q E2 s) (hm : behindInMarks op b = false)
    (ha : LE X P s1 scope x v a (.int i)) (hb : LE X P s1 scope x v b (.int j)) : LT X P s1 scope x v (.Compare a [op] [b] p) (g i j) := by
  intro ce B E2 t f
  refine wpAny_isTrue_Compare1 (wpAny_mono (ha ce B E2 t f) (fun y t1 h => ?_) fun _ _ e => e) hm
  obtain ⟨⟨k1, rfl⟩, q1⟩ := h
  refine wpAny_mono (hb ce B E2 t1 (f.keeps q1)) (fun z t2 h => ?_) fun _ _ e => e
  obtain ⟨⟨k2, rfl⟩, q2⟩ := h
  exact ru B E2 i j k1 k2 t2 _ (wpAny_truthy_bool ⟨rfl, keeps_trans q1 q2⟩)
theorem lt_gt {a b : Expr} {i j : Int} {p : Pos} (ha : LE X P s1 scope x v a (.int i)) (hb : LE X P s1 scope x v b (.int j)) : LT X P s1 scope x v (.Compare a [.Gt] [b] p) (decide (j < i)) :=
  lt_cmp (g := fun i j => decide (j < i)) (fun _ _ _ _ _ _ _ _ q => gt_int q) (nomark _) ha hb
theorem lt_lt {a b : Expr} {i j : Int} {p : Pos} (ha : LE X P s1 scope x v a (.int i)) (hb : LE X P s1 scope x v b (.int j)) : LT X P s1 scope x v (.Compare a [.Lt] [b] p) (decide (i < j)) :=
  lt_cmp (g := fun i j => decide (i < j)) (fun _ _ _ _ _ _ _ _ q => lt_int q) (nomark _) ha hb
theorem lt_ne {a b : Expr} {i j : Int} {p : Pos} (ha : LE X P s1 scope x v a (.int i)) (hb : LE X P s1 scope x v b (.int j)) : LT X P s1 scope x v (.Compare a [.NotEq] [b] p) (i != j) :=
  lt_cmp (g := fun i j => i != j) (fun _ _ _ _ _ _ _ _ q => PySem.P.ne_int q) (nomark _) ha hb
theorem le_if {c a b : Expr} {d : Bool} {va vb : V} {p : Pos} (hc : LT X P s1 scope x v c d) (ha : LE X P s1 scope x v a va) (hb : LE X P s1 scope x v b vb) : LE X P s1 scope x v (.IfExp c a b p) (if d then va else vb) := by
  intro ce B E2 t f
  refine wpAny_IfExp (wpAny_mono (hc ce B E2 t f) (fun y t1 h => ?_) fun _ _ e => e)
  obtain ⟨rfl, q1⟩ := h
  cases y with
  | true => exact wpAny_mono (ha ce B E2 t1 (f.keeps q1)) (fun z t2 h => ⟨h.1, keeps_trans q1 h.2⟩) fun _ _ e => e
  | false => exact wpAny_mono (hb ce B E2 t1 (f.keeps q1)) (fun z t2 h => ⟨h.1, keeps_trans q1 h.2⟩) fun _ _ e => e
theorem frOk_of {ce : Env} {B : Around} {t : Shared} {m : Str → Option Value} (hB : B.handled = none) (hD : B.depth ≤ X.A.depth + 1) (hU : B.units ≤ X.A.units + 8) (sc : ce.scope = scope) (ge : ce.globals = mainGlobals) (be : ce.builtins = builtinsNs) (cl : ce.cells = cloFrom X.env.cells scope.names [])
    (hn : t.heap.Ns ce.locals m) (hm : m x = some v) (kt : ∀ b o, b ≠ P → s1.heap.get? b = some o → t.heap.get? b = some o) : FrOk X P s1 scope x v ce B t := ⟨hB, hD, hU, sc, ge, be, cl, ⟨m, hn, hm⟩, kt⟩
/-- elements without a test -/
theorem elt_le {elt : Expr} {Pf : Nat → Value → Prop} {f : Nat → V} (h : ∀ i v, Pf i v → LE X P s1 scope x v elt (f i)) : Elt X P s1 scope x [] elt Pf (fun _ => true) (fun i y => RelV (f i) y) := by
  intro ce B E2 i v t m hB hD hU sc ge be cl hv hn hm kt
  refine ⟨?_, fun _ => h i v hv ce B E2 t (frOk_of hB hD hU sc ge be cl hn hm kt)⟩
  simp only [List.forIn_nil]
  exact wpAny_pure ⟨rfl, GxR.keeps_refl _⟩
/-- elements with one test -/
theorem elt_if {c elt : Expr} {Pf : Nat → Value → Prop} {pz : Nat → Bool} {f : Nat → V} (hc : ∀ i v, Pf i v → LT X P s1 scope x v c (pz i)) (h : ∀ i v, Pf i v → pz i = true → LE X P s1 scope x v elt (f i)) : Elt X P s1 scope x [c] elt Pf pz (fun i y => RelV (f i) y) := by
  intro ce B E2 i v t m hB hD hU sc ge be cl hv hn hm kt
  have fr := frOk_of hB hD hU sc ge be cl hn hm kt
  refine ⟨?_, fun hp => h i v hv hp ce B E2 t fr⟩
  rw [List.forIn_cons]
  simp only [if_true, bind_assoc, pure_bind, List.forIn_nil]
  exact wpAny_bind (wpAny_mono (hc i v hv ce B E2 t fr) (fun y t1 q => wpAny_pure q) fun _ _ e => e)
/-! ### read off the text: what an element comes to, told of the def's names, the heap, the item -/
abbrev RL := L2.St → Hp → V → V → Prop
abbrev RT := L2.St → Hp → V → Bool → Prop
structure PLE (X : Cx) (P : Addr) (scope : Scope) (x : Str) (e : Expr) (r : RL) : Prop where
  run : ∀ (pins : List (Addr × Obj)) (σ : L2.St) (H1 : Hp) (s1 : Shared) (w val : V) (v : Value), Inv X pins σ H1 s1 → GxR.TabG H1 P → RelV w v → r σ H1 w val → LE X P s1 scope x v e val
structure PLT (X : Cx) (P : Addr) (scope : Scope) (x : Str) (e : Expr) (r : RT) : Prop where
  run : ∀ (pins : List (Addr × Obj)) (σ : L2.St) (H1 : Hp) (s1 : Shared) (w : V) (b : Bool) (v : Value), Inv X pins σ H1 s1 → GxR.TabG H1 P → RelV w v → r σ H1 w b → LT X P s1 scope x v e b
def rItem : RL := fun _ _ w val => val = w
def rFree (i : Nat) : RL := fun σ _ _ val => σ[i]? = some (some val)
def rConst (c : Int) : RL := fun _ _ _ val => val = .int c
def rBin (g : Int → Int → Int) (a b : RL) : RL := fun σ H w val => ∃ i j, a σ H w (.int i) ∧ b σ H w (.int j) ∧ val = .int (g i j)
def rCmp (g : Int → Int → Bool) (a b : RL) : RT := fun σ H w d => ∃ i j, a σ H w (.int i) ∧ b σ H w (.int j) ∧ d = g i j
def rIfE (c : RT) (a b : RL) : RL := fun σ H w val => ∃ d va vb, c σ H w d ∧ a σ H w va ∧ b σ H w vb ∧ val = if d then va else vb
theorem ple_item {p : Pos} (hk : scope.kind = .function) (hl : scope.names.lookup x = some .local) (hd : (x == ("__debug__" : Str)) = false := by decide) : PLE X P scope x (.Name x p) rItem :=
  ⟨fun _ _ _ _ w val v _ _ r h => by cases h; exact le_item hk hl r hd⟩
theorem ple_free {y : Str} {p : Pos} (i : Nat) (S : GxR.GenS X.env scope x) (hN : X.N[i]? = some y) (hc : X.env.kindOf y = some .cell) (hf : scope.names.lookup y = some .free)
    (hd : (y == ("__debug__" : Str)) = false := by decide) (hcd : (y == ("__classdict__" : Str)) = false := by decide) : PLE X P scope x (.Name y p) (rFree i) :=
  ⟨fun _ _ _ _ w val v I ⟨_, hP, _⟩ _ h => le_free I hP S hN h hc hf hd hcd⟩
theorem ple_int {i : Int} {j : Nat} {p : Pos} : PLE X P scope x (.Constant (.int i) j p) (rConst i) := ⟨fun _ _ _ _ w val v _ _ _ h => by cases h; exact le_int⟩
theorem ple_add {a b : Expr} {ra rb : RL} {p : Pos} (ha : PLE X P scope x a ra) (hb : PLE X P scope x b rb) : PLE X P scope x (.BinOp a .Add b p) (rBin (fun i j => i + j) ra rb) :=
  ⟨fun _ _ _ _ w val v I hP r ⟨i, j, h1, h2, e⟩ => by subst e; exact le_add (ha.run _ _ _ _ _ _ _ I hP r h1) (hb.run _ _ _ _ _ _ _ I hP r h2)⟩
theorem ple_sub {a b : Expr} {ra rb : RL} {p : Pos} (ha : PLE X P scope x a ra) (hb : PLE X P scope x b rb) : PLE X P scope x (.BinOp a .Sub b p) (rBin (fun i j => i - j) ra rb) :=
  ⟨fun _ _ _ _ w val v I hP r ⟨i, j, h1, h2, e⟩ => by subst e; exact le_sub (ha.run _ _ _ _ _ _ _ I hP r h1) (hb.run _ _ _ _ _ _ _ I hP r h2)⟩
theorem plt_gt {a b : Expr} {ra rb : RL} {p : Pos} (ha : PLE X P scope x a ra) (hb : PLE X P scope x b rb) : PLT X P scope x (.Compare a [.Gt] [b] p) (rCmp (fun i j => decide (j < i)) ra rb) :=
  ⟨fun _ _ _ _ w d v I hP r ⟨i, j, h1, h2, e⟩ => by subst e; exact lt_gt (ha.run _ _ _ _ _ _ _ I hP r h1) (hb.run _ _ _ _ _ _ _ I hP r h2)⟩
theorem plt_lt {a b : Expr} {ra rb : RL} {p : Pos} (ha : PLE X P scope x a ra) (hb : PLE X P scope x b rb) : PLT X P scope x (.Compare a [.Lt] [b] p) (rCmp (fun i j => decide (i < j)) ra rb) :=
  ⟨fun _ _ _ _ w d v I hP r ⟨i, j, h1, h2, e⟩ => by subst e; exact lt_lt (ha.run _ _ _ _ _ _ _ I hP r h1) (hb.run _ _ _ _ _ _ _ I hP r h2)⟩
theorem plt_ne {a b : Expr} {ra rb : RL} {p : Pos} (ha : PLE X P scope x a ra) (hb : PLE X P scope x b rb) : PLT X P scope x (.Compare a [.NotEq] [b] p) (rCmp (fun i j => i != j) ra rb) :=
  ⟨fun _ _ _ _ w d v I hP r ⟨i, j, h1, h2, e⟩ => by subst e; exact lt_ne (ha.run _ _ _ _ _ _ _ I hP r h1) (hb.run _ _ _ _ _ _ _ I hP r h2)⟩
theorem ple_if {c a b : Expr} {rc : RT} {ra rb : RL} {p : Pos} (hc : PLT X P scope x c rc) (ha : PLE X P scope x a ra) (hb : PLE X P scope x b rb) : PLE X P scope x (.IfExp c a b p) (rIfE rc ra rb) :=
  ⟨fun _ _ _ _ w val v I hP r ⟨d, va, vb, h0, h1, h2, e⟩ => by subst e; exact le_if (hc.run _ _ _ _ _ _ _ I hP r h0) (ha.run _ _ _ _ _ _ _ I hP r h1) (hb.run _ _ _ _ _ _ _ I hP r h2)⟩
def rLenT (K : PySem.W.Frag) (ra : RL) : RL := fun σ H w val => ∃ a ys, ra σ H w (.ref a) ∧ SqT K H a ys ∧ val = .int ys.length
theorem ple_len {a : Expr} {ra : RL} {p1 p2 : Pos} (ha : PLE X P scope x a ra) (hk : scope.kind = .function) (gl : scope.names.lookup ("len" : Str) = some .globalImplicit) (ml : X.mg "len" = none) (he : ∀ ce, starEach [a] ce = (false, eval a ce) :: starEach [] ce := by intro _; rfl) : PLE X P scope x (.Call (.Name "len" p1) [a] [] p2) (rLenT X.K ra) := by
  refine ⟨fun pins σ H1 s1 w val v I hP r ⟨b, ys, h1, hT, e⟩ => ?_⟩
  subst e
  have hl := ha.run _ _ _ _ _ _ _ I hP r h1
  obtain ⟨ps, eP, _⟩ := hP
  obtain ⟨its, rv, ⟨ob, ho, hc, n, hd⟩, hz⟩ := I.tuple hT
  have ePs : s1.heap.get? P = some { cls := .none, data := .fields ps } := I.hok P _ eP
  have bP : b ≠ P := fun z => by
    rw [z, ePs] at ho
    have e2 := Option.some.inj ho
    rw [← e2] at hc
    cases hc
  intro ce B E2 t f
  have L := low_at I eP f.kt
  have sc := f.sc
  subst sc
  refine wpAny_Call_Name_kw (low_blt L hk gl f.ge f.be ml boot_len ?_)
  refine PyProof.Rows.callWith_builtin1 ?_ (he ce) (by rfl)
  rw [he ce]
  show wpAny _ _ (spliced ((false, eval a ce) :: backTo p2 (starEach [] ce))) _ _ t
  refine Calls.spliced_cons (wpAny_mono (hl ce B E2 t f) (fun y t1 hy => ?_) fun _ _ e => e)
  obtain ⟨hy, k1⟩ := hy
  obtain rfl : y = Value.ref b := hy
  refine Calls.spliced_nil ?_
  have ht1 : IsTup t1.heap b its.toArray := ⟨ob, keeps_heap k1 _ _ (f.kt _ _ bP ho), hc, n, hd⟩
  have hlen := rv.length
  have hs : sizeLine = 16777216 := sizeLine_eq
  refine len_tuple ht1 (by simp only [List.size_toArray]; omega) ⟨⟨_, by simp only [List.size_toArray]; rw [hlen]⟩, keeps_trans k1 (kp_tok _ _)⟩
/-- tuple(e for x in t), t a tuple; behind it the def's table may have grown -/
def tTupG (K : PySem.W.Frag) (P : Addr) (te : TE) (r : RL) : TE := fun σ H Q => te σ H fun v H1 => GxR.TabG H1 P ∧ ∃ (a : Addr) (xs : List V) (f : Nat → V), v = .ref a ∧ SqT K H1 a xs ∧ (∀ (i : Nat) (w : V), xs[i]? = some w → r σ H1 w (f i)) ∧
  ∀ H2 p ob, ob.dict = none → GxR.Tabbed P H1 H2 → H2 p = none → Q (.ref p) (upd H2 p (.frz ob (.tup ((List.range xs.length).map f))))
theorem pe_tupG {c P : Addr} {elt iter : Expr} {x : Str} {px p pos gpos : Pos} {scope : Scope} {te : TE} {r : RL} {k : Nat} (hr : Room k X.A) (hg : Gl X "tuple") (hm : X.mg "tuple" = none) (TB : GxR.TabB X.base X.mg c P) (hcode : X.env.code = .ref c) (S : GxR.GenS X.env scope x) (hi : PE X iter te)
    (hel : PLE X P scope x elt r) (hs : ∀ v, genFold iter X.env v = pure v) (hbl : bootBuiltins "tuple" = some (.type "tuple") := by decide +kernel)
    (he : starEach [.GeneratorExp elt [⟨.Name x px, iter, [], 0⟩] scope gpos] X.env = (false, eval (.GeneratorExp elt [⟨.Name x px, iter, [], 0⟩] scope gpos) X.env) :: starEach [] X.env := by rfl) :
    PE X (.Call (.Name "tuple" p) [.GeneratorExp elt [⟨.Name x px, iter, [], 0⟩] scope gpos] [] pos) (tTupG X.K P te r) := by
  refine ⟨fun pins s σ H Q I h => ?_⟩
  refine wpAny_Call_Name_kw (ld_blt I hg hm hbl ?_)
  refine PyProof.Rows.callWith_type1 ?_ he (by rfl)
  rw [he]
  show wpAny _ _ (spliced ((false, eval (.GeneratorExp elt [⟨.Name x px, iter, [], 0⟩] scope gpos) X.env) :: backTo pos (starEach [] X.env))) _ _ s
  refine Calls.spliced_cons (gen_src hr TB hcode S hi hs I h fun v u H1 s1 I1 r1 ht hv => ?_)
  obtain ⟨a, xs, f, rfl, hT, hf, q⟩ := hv
  obtain rfl : u = Value.ref a := r1
  obtain ⟨its, rv, hz, src⟩ := src_tuple I1 hT (let ⟨ps, e, _⟩ := ht; ⟨ps, e⟩)
  refine ⟨xs.length, _, fun _ => true, fun i y => RelV (f i) y, src, elt_le fun i v hv => ?_, fun g s5 rd => Calls.spliced_nil (tup_of rd (fun i y _ e => e) (by rw [rv.length]; exact hz) fun H2 p ob hd hT2 hn => ?_)⟩
  · have li : i < xs.length := by
      rw [rv.length]
      exact (List.getElem?_eq_some_iff.mp hv).1
    obtain ⟨u, hu, ru⟩ := rv.get (List.getElem?_eq_getElem li)
    rw [hv] at hu
    obtain rfl := Option.some.inj hu
    exact hel.run _ _ _ _ _ _ _ I1 ht ru (hf i _ (List.getElem?_eq_getElem li))
  · rw [GxR.passing_true]
    exact q H2 p ob hd hT2 hn
/-- tuple(e for x in t if c), t a tuple -/
def tTupF (K : PySem.W.Frag) (P : Addr) (te : TE) (rt : RT) (r : RL) : TE := fun σ H Q => te σ H fun v H1 => GxR.TabG H1 P ∧ ∃ (a : Addr) (xs : List V) (pz : Nat → Bool) (f : Nat → V), v = .ref a ∧ SqT K H1 a xs ∧ (∀ (i : Nat) (w : V), xs[i]? = some w → rt σ H1 w (pz i) ∧ (pz i = true → r σ H1 w (f i))) ∧
  ∀ H2 p ob, ob.dict = none → GxR.Tabbed P H1 H2 → H2 p = none → Q (.ref p) (upd H2 p (.frz ob (.tup (((List.range xs.length).filter pz).map f))))
theorem passing_filter (pz : Nat → Bool) (n : Nat) : passing pz n 0 = (List.range n).filter pz := by
  unfold passing
  simp
theorem pe_tupF {c P : Addr} {elt iter tst : Expr} {x : Str} {px p pos gpos : Pos} {scope : Scope} {te : TE} {rt : RT} {r : RL} {k : Nat} (hr : Room k X.A) (hg : Gl X "tuple") (hm : X.mg "tuple" = none) (TB : GxR.TabB X.base X.mg c P) (hcode : X.env.code = .ref c) (S : GxR.GenS X.env scope x) (hi : PE X iter te)
    (hc : PLT X P scope x tst rt) (hel : PLE X P scope x elt r) (hs : ∀ v, genFold iter X.env v = pure v) (hbl : bootBuiltins "tuple" = some (.type "tuple") := by decide +kernel)
    (he : starEach [.GeneratorExp elt [⟨.Name x px, iter, [tst], 0⟩] scope gpos] X.env = (false, eval (.GeneratorExp elt [⟨.Name x px, iter, [tst], 0⟩] scope gpos) X.env) :: starEach [] X.env := by rfl) :
    PE X (.Call (.Name "tuple" p) [.GeneratorExp elt [⟨.Name x px, iter, [tst], 0⟩] scope gpos] [] pos) (tTupF X.K P te rt r) := by
  refine ⟨fun pins s σ H Q I h => ?_⟩
  refine wpAny_Call_Name_kw (ld_blt I hg hm hbl (PyProof.Rows.callWith_type1 ?_ he (by rfl)))
  rw [he]
  show wpAny _ _ (spliced ((false, eval (.GeneratorExp elt [⟨.Name x px, iter, [tst], 0⟩] scope gpos) X.env) :: backTo pos (starEach [] X.env))) _ _ s
  refine Calls.spliced_cons (gen_src hr TB hcode S hi hs I h fun v u H1 s1 I1 r1 ht hv => ?_)
  obtain ⟨a, xs, pz, f, rfl, hT, hf, q⟩ := hv
  obtain rfl : u = Value.ref a := r1
  obtain ⟨its, rv, hz, src⟩ := src_tuple I1 hT (let ⟨ps, e, _⟩ := ht; ⟨ps, e⟩)
  have back : ∀ (i : Nat) (v : Value), its[i]? = some v → ∃ w, xs[i]? = some w ∧ RelV w v := fun i v hv => by
    have li : i < xs.length := by
      rw [rv.length]
      exact (List.getElem?_eq_some_iff.mp hv).1
    obtain ⟨u, hu, ru⟩ := rv.get (List.getElem?_eq_getElem li)
    rw [hv] at hu
    obtain rfl := Option.some.inj hu
    exact ⟨_, List.getElem?_eq_getElem li, ru⟩
  refine ⟨xs.length, _, pz, fun i y => RelV (f i) y, src, elt_if (fun i v hv => ?_) (fun i v hv hp => ?_), fun g s5 rd => Calls.spliced_nil (tup_of rd (fun i y _ e => e) (by rw [rv.length]; exact hz) fun H2 p ob hd hT2 hn => ?_)⟩
  · obtain ⟨w, hw, ru⟩ := back i v hv
    exact hc.run _ _ _ _ _ _ _ I1 ht ru (hf i w hw).1
  · obtain ⟨w, hw, ru⟩ := back i v hv
    exact hel.run _ _ _ _ _ _ _ I1 ht ru ((hf i w hw).2 hp)
  · rw [passing_filter]
    exact q H2 p ob hd hT2 hn
/-- tuple(l) of a list: a tuple of which it is known that it bears no attributes -/
def rTupZ (K : PySem.W.Frag) : List V → Hp → VK → Prop := fun vs H Q => ∃ a ys, vs = [V.ref a] ∧ SqL K H a ys ∧ ∀ (l : Addr) (ob : Obj), ob.dict = none → H l = none → Q (.ref l) (upd H l (.frz ob (.tup ys)))
theorem tupZK (K : PySem.W.Frag) (hK : X.K = K := by rfl) : CallR X (.type "tuple") (rTupZ K) := by
  subst hK
  intro pins s σ H vs us Q I r h
  obtain ⟨a, ys, rfl, hq, q⟩ := h
  obtain ⟨u, rfl, ru⟩ := vals1 r
  obtain rfl : u = Value.ref a := ru
  obtain ⟨its, rv, pl, hz⟩ := I.list hq
  have hl : its.length ≤ sizeLine := by rw [← rv.length]; exact hz
  refine call_tuple_list pl.isList (fun h' kp => ?_) (by rw [List.size_toArray]; exact hl)
  have J : Inv X pins σ H { s with heap := h' } := I.kept (t' := s.toks) kp
  refine ⟨.ref h'.objs.size, upd H h'.objs.size (.frz { cls := .type "tuple", data := .seq its.toArray } (.tup ys)), J.laid (t' := s.toks) (fun b o e => Heap.get?_push_of_some _ e) (Nat.le_refl _) ?_, rfl, q _ _ rfl (J.hok.fresh (Nat.le_refl _))⟩
  exact ⟨Heap.get?_push_size _ rfl, hz, its, rv, IsTup.new _ _⟩
/-- t.index(b) of a tuple of ints in the frame -/
def rTix (ra rb : RL) : RL := fun σ H w val => ∃ (a : Addr) (ob : Obj) (ns : List Int) (i : Int) (j : Nat), ra σ H w (.ref a) ∧ ob.dict = none ∧ H a = some (.frz ob (.tup (ns.map V.int))) ∧ rb σ H w (.int i) ∧ ns[j]? = some i ∧ (∀ m, m < j → ns[m]? ≠ some i) ∧ val = .int (j : Nat)
theorem ple_tix {a b : Expr} {ra rb : RL} {p1 p2 : Pos} (ha : PLE X P scope x a ra) (hb : PLE X P scope x b rb) (hbase : ∀ ce, attributeBase a "index" ce (eval a ce) = eval a ce := by intro _; rfl)
    (hfew : ∀ ce, ((backTo p2 (starEach [b] ce)).all (fun x => !x.1) && (backToKw p2 (keywordEach [] ce)).all (fun x => x.1.isSome) && decide ([b].length + ([] : List Keyword).length + (if ([] : List Keyword).isEmpty then 0 else 1) < 30)) = true := by intro _; rfl)
    (hline : (p1.endLine == p2.line) = true := by rfl) (he : ∀ ce, starEach [b] ce = (false, eval b ce) :: starEach [] ce := by intro _; rfl) : PLE X P scope x (.Call (.Attribute a "index" p1) [b] [] p2) (rTix ra rb) := by
  refine ⟨fun pins σ H1 s1 w val v I hP r ⟨c, ob, ns, i, j, h1, hd0, hT, h2, hj, hno, e⟩ => ?_⟩
  subst e
  have la := ha.run _ _ _ _ _ _ _ I hP r h1
  have lb := hb.run _ _ _ _ _ _ _ I hP r h2
  obtain ⟨ps, eP, _⟩ := hP
  obtain ⟨ho, hz, its, rv, o2, ho2, hc, n, hd⟩ := I.hok _ _ hT
  rw [ho] at ho2
  cases ho2
  have ePs : s1.heap.get? P = some { cls := .none, data := .fields ps } := I.hok P _ eP
  have cP : c ≠ P := fun z => by
    rw [z, ePs] at ho
    have e2 := Option.some.inj ho
    rw [← e2] at hc
    cases hc
  have ii := intsAre_of rv
  intro ce B E2 t f
  refine wpAny_Call_method_late (hbase ce) (hfew ce) hline rfl (wpAny_mono (la ce B E2 t f) (fun y t1 hy => ?_) fun _ _ e => e)
  obtain ⟨hy, k1⟩ := hy
  obtain rfl : y = Value.ref c := hy
  have g1 : t1.heap.get? c = some ob := keeps_heap k1 _ _ (f.kt _ _ cP ho)
  refine ⟨"tuple", "tuple.index", PySem.F.plainAttrs_tuple, PySem.F.slot_tuple_index, PySem.F.type_tuple_index, ⟨ob, g1, hc⟩, fun a' ea => ?_, ?_⟩
  · cases ea
    exact ⟨ob, g1, hd0⟩
  rw [he ce]
  refine Calls.callWith_builtin (by rfl) (Calls.evalArgs_plain ?_)
  show wpAny _ _ (spliced ((false, eval b ce) :: backTo p2 (starEach [] ce))) _ _ t1
  refine Calls.spliced_cons (wpAny_mono (lb ce B E2 t1 (f.keeps k1)) (fun y t2 hy => ?_) fun _ _ e => e)
  obtain ⟨⟨k, rfl⟩, k2⟩ := hy
  refine Calls.spliced_nil ?_
  have g2 : t2.heap.get? c = some ob := keeps_heap k2 _ _ g1
  have gi : ∀ (m : Nat) (z : Int), ns[m]? = some z → ∃ t, its[m]? = some (Value.int z t) := fun m z e => by
    obtain ⟨u, hu, t, ru⟩ := rv.get (i := m) (x := .int z) (by rw [List.getElem?_map, e]; rfl)
    exact ⟨t, by rw [hu, ru]⟩
  have hlen : its.length = ns.length := by rw [← rv.length, List.length_map]
  obtain ⟨tj, ej⟩ := gi j i hj
  obtain ⟨jl, ej2⟩ := List.getElem?_eq_some_iff.mp ej
  obtain ⟨cls, dd, dt, sl⟩ := ob
  simp only at hc hd
  subst hc hd
  refine call_meets PySem.F.slot_tuple_index ⟨_, g2, rfl⟩ PySem.F.entry_tuple_index (PySem.F.args_tuple_index_2 _ _) (_root_.TI.tuple_indexAt c its.toArray n dd sl (.int i k) (fun v => match v with | .int z _ => z == i | _ => false) j (by simpa using jl) ?_ ?_) ⟨g2, fun y hy => ?_, ⟨_, rfl⟩, keeps_trans (keeps_trans k1 k2) (kp_tok _ _)⟩
  · have e1 : its.toArray[j]'(by simpa using jl) = Value.int i tj := by simpa using ej2
    rw [e1]
    exact beq_self_eq_true i
  · intro m hm hmj
    have hm2 : m < ns.length := by
      rw [← hlen]
      simpa using hm
    obtain ⟨tm, em⟩ := gi m _ (List.getElem?_eq_getElem hm2)
    obtain ⟨_, em2⟩ := List.getElem?_eq_some_iff.mp em
    have e1 : its.toArray[m] = Value.int ns[m] tm := by simpa using em2
    rw [e1]
    exact beq_eq_false_iff_ne.mpr fun z => hno m hmj (by rw [List.getElem?_eq_getElem hm2, z])
  · obtain ⟨m, hm, em⟩ := List.getElem_of_mem (show y ∈ its by simpa using hy)
    have hm2 : m < ns.length := by rw [← hlen]; exact hm
    obtain ⟨tm, e3⟩ := gi m _ (List.getElem?_eq_getElem hm2)
    rw [List.getElem?_eq_getElem hm, em] at e3
    obtain rfl := Option.some.inj e3
    exact fun prog w E Q hq => SeqAt.EqAt.int_int _ _ _ _ prog w _ _ hq
/-- l.index(b) of a list of ints in the frame -/
def rLix (K : PySem.W.Frag) (ra rb : RL) : RL := fun σ H w val => ∃ (a : Addr) (ns : List Int) (i : Int) (j : Nat), ra σ H w (.ref a) ∧ SqL K H a (ns.map V.int) ∧ rb σ H w (.int i) ∧ ns[j]? = some i ∧ (∀ m, m < j → ns[m]? ≠ some i) ∧ val = .int (j : Nat)
theorem ple_lix {a b : Expr} {ra rb : RL} {p1 p2 : Pos} (ha : PLE X P scope x a ra) (hb : PLE X P scope x b rb) (hbase : ∀ ce, attributeBase a "index" ce (eval a ce) = eval a ce := by intro _; rfl)
    (hfew : ∀ ce, ((backTo p2 (starEach [b] ce)).all (fun x => !x.1) && (backToKw p2 (keywordEach [] ce)).all (fun x => x.1.isSome) && decide ([b].length + ([] : List Keyword).length + (if ([] : List Keyword).isEmpty then 0 else 1) < 30)) = true := by intro _; rfl)
    (hline : (p1.endLine == p2.line) = true := by rfl) (he : ∀ ce, starEach [b] ce = (false, eval b ce) :: starEach [] ce := by intro _; rfl) : PLE X P scope x (.Call (.Attribute a "index" p1) [b] [] p2) (rLix X.K ra rb) := by
  refine ⟨fun pins σ H1 s1 w val v I hP r ⟨c, ns, i, j, h1, hT, h2, hj, hno, e⟩ => ?_⟩
  subst e
  have la := ha.run _ _ _ _ _ _ _ I hP r h1
  have lb := hb.run _ _ _ _ _ _ _ I hP r h2
  obtain ⟨ps, eP, _⟩ := hP
  obtain ⟨its, rv, ⟨⟨cls, dd, dt, sl⟩, n, ho, hc, hd0, hd⟩, hz⟩ := I.list hT
  simp only at hc hd
  subst hc hd
  have ePs : s1.heap.get? P = some { cls := .none, data := .fields ps } := I.hok P _ eP
  have cP : c ≠ P := fun z => by
    rw [z, ePs] at ho
    cases ho
  intro ce B E2 t f
  refine wpAny_Call_method_late (hbase ce) (hfew ce) hline rfl (wpAny_mono (la ce B E2 t f) (fun y t1 hy => ?_) fun _ _ e => e)
  obtain ⟨hy, k1⟩ := hy
  obtain rfl : y = Value.ref c := hy
  have g1 := keeps_heap k1 _ _ (f.kt _ _ cP ho)
  refine ⟨"list", "list.index", PySem.F.plainAttrs_list, PySem.F.slot_list_index, PySem.F.type_list_index, ⟨_, g1, rfl⟩, fun a' ea => ?_, ?_⟩
  · cases ea
    exact ⟨_, g1, hd0⟩
  rw [he ce]
  refine Calls.callWith_builtin (by rfl) (Calls.evalArgs_plain ?_)
  show wpAny _ _ (spliced ((false, eval b ce) :: backTo p2 (starEach [] ce))) _ _ t1
  refine Calls.spliced_cons (wpAny_mono (lb ce B E2 t1 (f.keeps k1)) (fun y t2 hy => ?_) fun _ _ e => e)
  obtain ⟨⟨k, rfl⟩, k2⟩ := hy
  refine Calls.spliced_nil ?_
  have g2 := keeps_heap k2 _ _ g1
  have gi : ∀ (m : Nat) (z : Int), ns[m]? = some z → ∃ t, its[m]? = some (Value.int z t) := fun m z e => by
    obtain ⟨u, hu, t, ru⟩ := rv.get (i := m) (x := .int z) (by rw [List.getElem?_map, e]; rfl)
    exact ⟨t, by rw [hu, ru]⟩
  have hlen : its.length = ns.length := by rw [← rv.length, List.length_map]
  obtain ⟨tj, ej⟩ := gi j i hj
  obtain ⟨jl, ej2⟩ := List.getElem?_eq_some_iff.mp ej
  have hs : sizeLine = 16777216 := sizeLine_eq
  rw [List.length_map] at hz
  refine call_meets PySem.F.slot_list_index ⟨_, g2, rfl⟩ PySem.F.entry_list_index (PySem.F.args_list_index_2 _ _) (SeqAt.list_indexAt c its.toArray n dd sl (.int i k) (fun v => match v with | .int z _ => z == i | _ => false) j (by simpa using jl) (by omega) ?_ ?_) ⟨g2, fun y hy => ?_, ⟨_, rfl⟩, keeps_trans (keeps_trans k1 k2) (kp_tok _ _)⟩
  · have e1 : its.toArray[j]'(by simpa using jl) = Value.int i tj := by simpa using ej2
    rw [e1]
    exact beq_self_eq_true i
  · intro m hm hmj
    have hm2 : m < ns.length := by
      rw [← hlen]
      simpa using hm
    obtain ⟨tm, em⟩ := gi m _ (List.getElem?_eq_getElem hm2)
    obtain ⟨_, em2⟩ := List.getElem?_eq_some_iff.mp em
    have e1 : its.toArray[m] = Value.int ns[m] tm := by simpa using em2
    rw [e1]
    exact beq_eq_false_iff_ne.mpr fun z => hno m hmj (by rw [List.getElem?_eq_getElem hm2, z])
  · obtain ⟨m, hm, em⟩ := List.getElem_of_mem (show y ∈ its by simpa using hy)
    have hm2 : m < ns.length := by rw [← hlen]; exact hm
    obtain ⟨tm, e3⟩ := gi m _ (List.getElem?_eq_getElem hm2)
    rw [List.getElem?_eq_getElem hm, em] at e3
    obtain rfl := Option.some.inj e3
    exact fun prog w E Q hq => SeqAt.EqAt.int_int _ _ _ _ prog w _ _ hq
/-- the items' places are below the number of items -/
theorem walks_lt {prog : Program} {w : World} {A : Around} {I : Addr} {fp wr : List Addr} {n : Nat} {Pf : Nat → Value → Prop} {St : Nat → Heap → Prop} (W : Walks prog w A I fp wr n Pf St) : Walks prog w A I fp wr n (fun i v => i < n ∧ Pf i v) St where
  sub := W.sub
  frame := W.frame
  item := fun i s Q E hi st hQ => W.item i s Q E hi st fun v h tk hP hst hk => hQ v h tk ⟨hi, hP⟩ hst hk
  done := W.done
  self := W.self
theorem src_range {lo hi : Int} {r : Addr} {a b c : Tok} {P : Addr} {ps : Array Value} (hR : IsRange s1.heap r lo hi 1 a b c) (h1 : -(2 ^ 62) ≤ lo) (h2 : lo < 2 ^ 62) (h3 : -(2 ^ 62) ≤ hi) (h4 : hi < 2 ^ 62) (hP : s1.heap.get? P = some { cls := .none, data := .fields ps }) :
    Src X P (.ref r) s1 (hi - lo).toNat (fun i v => i < (hi - lo).toNat ∧ ∃ t, v = .int (lo + (i : Int) * 1) t) := by
  have Pl : P < s1.heap.objs.size := Heap.lt_size hP
  refine ⟨_, [s1.heap.objs.size], fun i h => IsRangeIter h s1.heap.objs.size (lo + (i : Nat) * 1) (((hi - lo).toNat : Int) - (i : Nat)) 1, fun R h => wpAny_pyIter_range hR (small_one h1 h2 h3 h4) h, fun A' hA => walks_lt (Walks.range hA s1.heap.objs.size lo 1 (hi - lo).toNat), fun b hb => ?_, fun h' k => ?_⟩
  · rw [List.mem_singleton.mp hb]; exact ⟨Nat.le_refl _, Nat.ne_of_gt Pl⟩
  · have e1 : lo + ((0 : Nat) : Int) * 1 = lo := by simp
    have e2 : (((hi - lo).toNat : Nat) : Int) - ((0 : Nat) : Int) = Builtin.Range.rangeSize lo hi 1 := by rw [rangeSize_one]; split <;> omega
    show IsRangeIter h' _ (lo + ((0 : Nat) : Int) * 1) ((((hi - lo).toNat : Nat) : Int) - ((0 : Nat) : Int)) 1
    rw [e1, e2]
    exact k _ _ (Nat.ne_of_gt Pl) (Heap.get?_push_size _ rfl)
/-- tuple(e for x in range(a, b)) -/
def tTupR (P : Addr) (ta : TA) (r : RL) : TE := fun σ H Q => ta σ H fun vs H1 => ∃ lo hi : Int, vs = [.int lo, .int hi] ∧ (-(2 ^ 62) ≤ lo ∧ lo < 2 ^ 62 ∧ -(2 ^ 62) ≤ hi ∧ hi < 2 ^ 62) ∧ (hi - lo).toNat ≤ sizeLine ∧ GxR.TabG H1 P ∧ ∃ f : Nat → V, (∀ i : Nat, i < (hi - lo).toNat → r σ H1 (.int (lo + (i : Int))) (f i)) ∧
  ∀ H2 p ob, ob.dict = none → GxR.Tabbed P H1 H2 → H2 p = none → Q (.ref p) (upd H2 p (.frz ob (.tup ((List.range (hi - lo).toNat).map f))))
theorem pe_tupR {c P : Addr} {elt a b : Expr} {x : Str} {px p pr qr pos gpos : Pos} {scope : Scope} {ta : TA} {r : RL} {k : Nat} (hr : Room k X.A) (hg : Gl X "tuple") (hm : X.mg "tuple" = none) (gr : Gl X "range") (mr : X.mg "range" = none) (TB : GxR.TabB X.base X.mg c P) (hcode : X.env.code = .ref c) (S : GxR.GenS X.env scope x)
    (ha : PA X [a, b] ta) (hel : PLE X P scope x elt r) (hs : ∀ v, genFold (.Call (.Name "range" pr) [a, b] [] qr) X.env v = pure v) (hbl : bootBuiltins "tuple" = some (.type "tuple") := by decide +kernel)
    (hs1 : starEach [a, b] X.env = [(false, eval a X.env), (false, eval b X.env)] := by rfl) (hs2 : starEach [b] X.env = [(false, eval b X.env)] := by rfl)
    (he : starEach [.GeneratorExp elt [⟨.Name x px, .Call (.Name "range" pr) [a, b] [] qr, [], 0⟩] scope gpos] X.env = (false, eval (.GeneratorExp elt [⟨.Name x px, .Call (.Name "range" pr) [a, b] [] qr, [], 0⟩] scope gpos) X.env) :: starEach [] X.env := by rfl) :
    PE X (.Call (.Name "tuple" p) [.GeneratorExp elt [⟨.Name x px, .Call (.Name "range" pr) [a, b] [] qr, [], 0⟩] scope gpos] [] pos) (tTupR P ta r) := by
  refine ⟨fun pins s σ H Q I h => ?_⟩
  refine wpAny_Call_Name_kw (ld_blt I hg hm hbl (PyProof.Rows.callWith_type1 ?_ he (by rfl)))
  rw [he]
  show wpAny _ _ (spliced ((false, eval (.GeneratorExp elt [⟨.Name x px, .Call (.Name "range" pr) [a, b] [] qr, [], 0⟩] scope gpos) X.env) :: backTo pos (starEach [] X.env))) _ _ s
  refine Calls.spliced_cons (gen_src0 (pins := pins) (σ := σ) (Rr := fun u H1 s1 => ∃ lo hi g1 g2 g3, ∃ r0 : Addr, u = .ref r0 ∧ IsRange s1.heap r0 lo hi 1 g1 g2 g3 ∧ (-(2 ^ 62) ≤ lo ∧ lo < 2 ^ 62 ∧ -(2 ^ 62) ≤ hi ∧ hi < 2 ^ 62) ∧ (hi - lo).toNat ≤ sizeLine ∧ ∃ f : Nat → V, (∀ i : Nat, i < (hi - lo).toNat → r σ H1 (.int (lo + (i : Int))) (f i)) ∧
      ∀ H2 p ob, ob.dict = none → GxR.Tabbed P H1 H2 → H2 p = none → Q (.ref p) (upd H2 p (.frz ob (.tup ((List.range (hi - lo).toNat).map f))))) hr TB hcode S hs ?_ fun u H1 s1 I1 ht hv => ?_)
  · refine Call_ (ld_blt I gr mr boot_range (PyProof.Rows.callWith_type1 (thn (ha.run qr pins s σ H _ I h) fun us s1 ⟨vs, H1, I1, r1, q1⟩ => ?_) (by rw [hs1, hs2]) (by rw [hs2]; rfl)))
    obtain ⟨lo, hi, e, hb, hz, ht, f, hf, q⟩ := q1
    subst e
    obtain ⟨u1, u2, rfl, ⟨t1, rfl⟩, ⟨t2, rfl⟩⟩ := vals2 r1
    exact call_range_2 ⟨H1, I1.kept (fun b o e => Heap.get?_push_of_some _ e), ht, lo, hi, _, _, _, _, rfl, IsRange.new .., hb, hz, f, hf, q⟩
  · obtain ⟨lo, hi, g1, g2, g3, r0, rfl, hR, ⟨h1, h2, h3, h4⟩, hz, f, hf, q⟩ := hv
    obtain ⟨ps, eP, _⟩ := id ht
    refine ⟨_, _, fun _ => true, fun i y => RelV (f i) y, src_range hR h1 h2 h3 h4 (I1.hok P _ eP), elt_le fun i v hv => ?_, fun g s5 rd => Calls.spliced_nil (tup_of rd (fun i y _ e => e) hz fun H2 p ob hd hT2 hn => ?_)⟩
    · obtain ⟨li, tk, rfl⟩ := hv
      exact hel.run _ _ _ _ (.int (lo + (i : Int))) _ _ I1 ht (show ∃ t, Value.int (lo + (i : Int) * 1) tk = Value.int (lo + (i : Int)) t from ⟨tk, by rw [Int.mul_one]⟩) (hf i li)
    · rw [GxR.passing_true]
      exact q H2 p ob hd hT2 hn
end
end Up

set_option Elab.async false
set_option linter.all false
set_option maxRecDepth 100000
set_option maxHeartbeats 4000000
namespace Up
open PySem PySem.Spec PyProof.Rows L2 SrtO Srt
section
variable {prog : Program} {w : World} {A : Around} {E : Value → Shared → Prop} {s : Shared}
/-- sorted of a tuple of ints -/
theorem sorted_tupI {l : Addr} {o : Obj} {vs : List Value} {n : Nat} {ns : List Int} {Q : Value → Shared → Prop} (ho : s.heap.get? l = some o) (hc : o.cls = .type "tuple") (hd : o.data = .seq vs.toArray n) (hz : vs.length ≤ sizeLine) (hI : IntsAre vs ns)
    (h : ∀ (out : List Value) (h1 h' : Heap) (ep : Nat), IntsAre out (out.map iv) → (out.map iv).Perm ns → (out.map iv).Pairwise (· ≤ ·) → out.length ≤ sizeLine → (∀ b u, s.heap.get? b = some u → h1.get? b = some u) → (∀ b u, h1.get? b = some u → h'.get? b = some u) → h'.get? h1.objs.size = some (seqObj "list" out.toArray ep) → Q (.ref h1.objs.size) { s with heap := h' }) :
    wpAny (model prog w) A (call (.builtin "sorted") [.ref l]) Q E s := by
  refine Calls.call_function_entry kind_sorted plain_sorted entry_sorted (args_sorted1 _) ?_
  unfold Builtin.«sorted»
  refine wpAny_bind (m := checkCount "sorted" 1 1 _) (wpAny_pure ?_)
  refine wpAny_bind (wpAny_collect_seq l (T := "tuple") (.inr rfl) ho hc hd (fun h1 k1 => ?_) (by rw [List.size_toArray]; exact hz))
  refine wpAny_bind (wpAny_newList ?_ (by simpa using hz))
  show wpAny _ _ _ _ _ { s with heap := h1.push (seqObj "list" vs.toArray 0) }
  have eL : (h1.push (seqObj "list" vs.toArray 0)).get? h1.objs.size = some (seqObj "list" vs.toArray 0) := Heap.get?_push_size _ rfl
  refine wpAny_bind (wpAny_holding (wpAny_call_entry slot_list_sort ⟨_, eL, rfl⟩ entry_list_sort (list_sort_ord swo_int eL hz (fun h2 => ints_sortable (s := { s with heap := h1.push (seqObj "list" vs.toArray 0) }) hI h2) fun out hs hb => ⟨_, rfl, ?_⟩) (args_list_sort _)))
  obtain ⟨q1, q2, q3⟩ := ints_out hI hs hb
  obtain ⟨ep, he⟩ := PyProof.Rows.sortedHeap_at (vs := vs) (out := out.toArray) eL
  refine wpAny_pure ⟨_, rfl, h out h1 _ ep q1 q2 q3 (by rw [hb.len]; exact hz) k1 (fun b u e => ?_) he⟩
  have lb : b < h1.objs.size := Heap.lt_size e
  rw [PyProof.Rows.sortedHeap_old (Nat.ne_of_lt lb) (by rw [size_push']; exact Nat.lt_succ_of_lt lb)]
  exact Heap.get?_push_of_some _ e
end
section
variable {X : Cx}
/-- sorted(t), t a tuple of ints: a rising list -/
def rSortedTup (K : PySem.W.Frag) : List V → Hp → VK → Prop := fun vs H Q => ∃ (a : Addr) (ns : List Int), vs = [V.ref a] ∧ SqT K H a (ns.map V.int) ∧ ∀ (ms : List Int) (p : Addr), ms.Perm ns → ms.Pairwise (· ≤ ·) → H p = none → Q (.ref p) (upd H p (.lst (ms.map V.int)))
theorem sortedTupK (K : PySem.W.Frag) (hK : X.K = K := by rfl) : CallR X (.builtin "sorted") (rSortedTup K) := by
  subst hK
  intro pins s σ H vs us Q I r h
  obtain ⟨a, ns, rfl, hT, q⟩ := h
  obtain ⟨u, rfl, ru⟩ := vals1 r
  obtain rfl : u = Value.ref a := ru
  obtain ⟨its, rv, ⟨o, ho, hc, n, hd⟩, hz⟩ := I.tuple hT
  have hl : its.length ≤ sizeLine := by rw [← rv.length]; exact hz
  refine sorted_tupI ho hc hd hl (by simpa using intsAre_of rv) fun out h1 h' ep q1 q2 q3 q4 k1 k2 he => ?_
  have J : Inv X pins σ H { s with heap := h1 } := I.kept (t' := s.toks) k1
  refine ⟨.ref h1.objs.size, upd H h1.objs.size (.lst ((out.map iv).map V.int)), J.laid (t' := s.toks) k2 (Nat.le_refl _) ?_, rfl, q _ _ q2 q3 (J.hok.fresh (Nat.le_refl _))⟩
  exact ⟨by rw [List.length_map, List.length_map]; exact q4, out, ep, vals_of_ints q1, he⟩
/-- len(set(t)), t a tuple of unlike ints -/
def tLenSetT (K : PySem.W.Frag) (ta : TE) : TE := fun σ H Q => ta σ H fun x H1 => ∃ (l : Addr) (ns : List Int), x = V.ref l ∧ SqT K H1 l (ns.map V.int) ∧ ns.length < 64 ∧ ns.Nodup ∧ Q (.int ns.length) H1
theorem pe_lenSetT {a : Expr} {ta : TE} {p p2 q pos : Pos} (hc : X.calm = true) (hg : Gl X "len") (hm : X.mg "len" = none) (hg2 : Gl X "set") (hm2 : X.mg "set" = none) (ha : PE X a ta)
    (na : starEach [a] X.env = (false, eval a X.env) :: starEach [] X.env := by rfl) : PE X (.Call (.Name "len" p) [.Call (.Name "set" p2) [a] [] q] [] pos) (tLenSetT X.K ta) := by
  refine ⟨fun pins s σ H Q I h => ?_⟩
  refine Call_ (ld_blt I hg hm PySem.boot_len (PyProof.Rows.callWith_builtin1 (PyProof.Rows.args_cons ?_ rfl) rfl rfl))
  refine Call_ (ld_blt I hg2 hm2 PyProof.Rows.boot_set (PyProof.Rows.callWith_type1 (PyProof.Rows.args_cons (thn (ha.run pins s σ H _ I h) fun v s1 hv => PyProof.Rows.args_nil ?_) na) na rfl))
  obtain ⟨x, H1, I1, r1, l, ns, rfl, hT, h64, hnd, q1⟩ := hv
  obtain rfl : v = Value.ref l := r1
  obtain ⟨its, rv, ⟨ob, ho, hcl, n, hd⟩, hz⟩ := I1.tuple hT
  refine L2.call_set_tupI ns (I1.ok.hd hc) ⟨ob, ho, hcl, n, hd⟩ (by simpa using intsAre_of rv) (by unfold scanBound; omega) fun h' tk c hS hcle hk => ?_
  refine PyProof.Rows.args_nil ?_
  obtain ⟨o, es, ep, t, hso, hex, hsd, _, hndk, hmem, _, hf, hn, _⟩ := hS
  have hc2 : c = ns.length := by
    have pm : (es.toList.map keyOf).Perm ns := (List.perm_ext_iff_of_nodup hndk hnd).mpr fun k => by
      rw [← hmem k]
      exact decide_eq_true_iff
    have := pm.length_eq
    rw [List.length_map, Array.length_toList, hn] at this
    exact this
  have I2 : Inv X pins σ H1 { s1 with heap := h', toks := tk } := I1.kept fun b o e => hk b o e
  refine call_len_set hso hex hsd hf (by rw [hn, hc2]; omega) ⟨.int ns.length, H1, I2.tok _, ⟨_, by rw [hn, hc2]⟩, q1⟩
end
end Up

set_option Elab.async false
set_option linter.all false
set_option maxRecDepth 100000
set_option maxHeartbeats 2000000
/-! defs with generator expressions: their scopes, and what becomes of their tables -/
namespace Up
open PySem PySem.Spec PyProof.Rows L2
def genSB (ds sc : Scope) (x : Str) : Bool :=
  (decide (sc.kind = .function) && (!sc.isCoroutine && (sc.names.all fun y => !decide (y.2 = .cell) && (!decide (y.2 = .free) || decide (ds.names.lookup y.1 = some .cell))))) && (decide (sc.names.lookup (".0" : Str) = some NameKind.local) && decide (sc.names.lookup x = some NameKind.local))
theorem genS_by {ds sc : Scope} {x qual : Str} {L f : Addr} {cd : Value} (h : genSB ds sc x = true) : GxR.GenS (envOfC qual ds L f cd) sc x := by
  unfold genSB at h
  simp only [Bool.and_eq_true, Bool.or_eq_true, Bool.not_eq_true', decide_eq_true_eq, decide_eq_false_iff_not, List.all_eq_true] at h
  obtain ⟨⟨h1, h2, h3⟩, h4, h5⟩ := h
  refine ⟨h1, h2, fun y hy => (h3 y hy).1, h4, h5, fun y hy e => ?_⟩
  rcases (h3 y hy).2 with z | z
  · exact absurd e z
  · have k := PySem.W.cellsFrom_some (x := y.1) ds.names (L + 1) [] (.inl z)
    cases q : (cellsFrom (L + 1) ds.names []).lookup y.1 with
    | none => rw [q] at k; cases k
    | some c => exact ⟨c, q⟩
theorem tab_of {base : Heap} {mg : Str → Option Value} {c P : Addr} (t : LamX.TabB base mg c P) : GxR.TabB base mg c P := ⟨t.code, t.bm, t.gP⟩
/-- the tables stand -/
def TG (Ps : List Addr) (H : Hp) : Prop := ∀ P ∈ Ps, GxR.TabG H P
/-- what is no table stays as it is, the tables stand -/
structure Go (Ps : List Addr) (H H' : Hp) : Prop where
  ext : LamX.ExtN H H'
  tab : TG Ps H'
theorem TG.same {Ps : List Addr} {H H' : Hp} (t : TG Ps H) (s : Same H H') : TG Ps H' := fun P hP => by
  obtain ⟨ps, e, k⟩ := t P hP
  exact ⟨ps, s _ _ e, k⟩
theorem TG.set {Ps : List Addr} {H : Hp} {p : Addr} {xs : List V} {o : HO} (t : TG Ps H) (h : H p = some (.lst xs)) : TG Ps (upd H p o) := fun P hP => by
  obtain ⟨ps, e, k⟩ := t P hP
  exact ⟨ps, by rw [upd_ne fun z => by rw [z, h] at e; cases e]; exact e, k⟩
theorem Go.refl {Ps : List Addr} {H : Hp} (t : TG Ps H) : Go Ps H H := ⟨LamX.ExtN.refl _, t⟩
theorem Go.trans {Ps : List Addr} {H H1 H2 : Hp} (a : Go Ps H H1) (b : Go Ps H1 H2) : Go Ps H H2 := ⟨a.ext.trans b.ext, b.tab⟩
theorem Go.same {Ps : List Addr} {H H1 H2 : Hp} (a : Go Ps H H1) (s : Same H1 H2) : Go Ps H H2 := ⟨a.ext.trans (Same.ext s), a.tab.same s⟩
theorem Go.of {Ps : List Addr} {H H' : Hp} (t : TG Ps H) (s : Same H H') : Go Ps H H' := (Go.refl t).same s
/-- a list made since is changed -/
theorem Go.set {Ps : List Addr} {H H' : Hp} {p : Addr} {xs : List V} {o : HO} (a : Go Ps H H') (n : H p = none) (h : H' p = some (.lst xs)) : Go Ps H (upd H' p o) := ⟨ext_set a.ext n, a.tab.set h⟩
theorem Go.tabbed {Ps : List Addr} {H H1 H2 : Hp} {P : Addr} (a : Go Ps H H1) (hP : GxR.TabG H1 P) (t : GxR.Tabbed P H1 H2) : Go Ps H H2 := by
  obtain ⟨ps, eP, _⟩ := hP
  refine ⟨a.ext.trans fun b o e n => ?_, fun q hq => ?_⟩
  · rw [t.2 b fun z => by rw [z, eP] at e; exact n _ (Option.some.inj e).symm]; exact e
  · by_cases z : q = P
    · rw [z]; exact t.1
    · obtain ⟨qs, e, k⟩ := a.tab q hq
      exact ⟨qs, by rw [t.2 q z]; exact e, k⟩
theorem ext_sqt {K : PySem.W.Frag} {H H' : Hp} {a : Addr} {xs : List V} (e : LamX.ExtN H H') (h : SqT K H a xs) : SqT K H' a xs := by
  rcases h with (h | ⟨o, h⟩) | h
  · exact .inl (.inl (e _ _ h (fun _ z => by cases z)))
  · exact .inl (.inr ⟨o, e _ _ h (fun _ z => by cases z)⟩)
  · exact .inr h
theorem ext_none {H H' : Hp} {p : Addr} (e : LamX.ExtN H H') {Ps : List Addr} (h : H' p = none) (t : ∀ b ps, H b = some (.tbl ps) → b ∈ Ps) (g : TG Ps H') : H p = none := by
  cases q : H p with
  | none => rfl
  | some o =>
    by_cases z : ∃ ps, o = .tbl ps
    · obtain ⟨ps, rfl⟩ := z
      obtain ⟨_, e2, _⟩ := g p (t _ _ q)
      rw [e2] at h; cases h
    · rw [e _ _ q fun ps y => z ⟨ps, y⟩] at h; cases h
end Up

set_option Elab.async false
set_option linter.all false
set_option maxRecDepth 100000
set_option maxHeartbeats 2000000
/-! own rules: a tuple and a text from behind -/
namespace Up
open PySem PySem.Spec PyProof.Rows L2
section
variable {X : Cx}
theorem applied_rev {prog : Program} {w : World} {A : Around} {E : Value → Shared → Prop} {s : Shared} {sl : Addr} {vs : Value} {n : Nat} {Q : Int × Int × Nat → Shared → Prop} (hs : s.heap.IsSliceOf sl .none .none vs) (ps : IsPart vs (some (-1)))
    (h : Q ((n : Int) - 1, -1, n) s) : wpAny (model prog w) A (Builtin.Slice.sliceApplied (.ref sl) (pure (n : Int))) Q E s := by
  obtain ⟨os, hos, hcs, hds⟩ := id hs
  unfold Builtin.Slice.sliceApplied Builtin.Slice.sliceFields
  refine wpAny_bind (wpAny_bind (wpAny_field hos hds (x := Value.none) rfl (wpAny_bind (wpAny_field hos hds (x := Value.none) rfl (wpAny_bind (wpAny_field hos hds (x := vs) rfl (wpAny_pure ?_)))))))
  refine wpAny_bind (HT.slicePart_ ps ?_)
  show wpAny _ _ (if ((-1 : Int) == 0) = true then _ else _) _ _ s
  rw [if_neg (by decide)]
  refine wpAny_bind (HT.slicePart_ .none (wpAny_bind (HT.slicePart_ .none (wpAny_bind (wpAny_pure ?_)))))
  have e : Builtin.Slice.slicePlaces ((n : Int) - 1) (-1) (-1) = n := by
    unfold Builtin.Slice.slicePlaces
    have h1 : ¬ ((-1 : Int) > 0) := by decide
    simp only [h1, if_false]
    rw [show (- -1 : Int) = 1 by decide, Int.ediv_one]
    split <;> omega
  show wpAny _ _ (pure ((n : Int) - 1, (-1 : Int), Builtin.Slice.slicePlaces ((n : Int) - 1) (-1) (-1))) _ _ s
  rw [e]
  exact wpAny_pure h
theorem fm_congr {α β : Type} {f g : α → Option β} : ∀ {l : List α}, (∀ x ∈ l, f x = g x) → l.filterMap f = l.filterMap g
  | [], _ => rfl
  | x :: l, h => by
    rw [List.filterMap_cons, List.filterMap_cons, h x List.mem_cons_self, fm_congr fun y hy => h y (List.mem_cons_of_mem _ hy)]
theorem pick_back (xs : Array Value) : ((List.range xs.size).filterMap fun (k : Nat) => xs[(((xs.size : Int) - 1) + (k : Int) * (-1)).toNat]?).toArray = xs.toList.reverse.toArray := by
  have e : (List.range xs.size).filterMap (fun (k : Nat) => xs[(((xs.size : Int) - 1) + (k : Int) * (-1)).toNat]?) = ((List.range xs.size).map fun k => xs.size - 1 - k).filterMap (xs[·]?) := by
    rw [List.filterMap_map]
    refine fm_congr fun k hk => ?_
    have := List.mem_range.mp hk
    show _ = xs[xs.size - 1 - k]?
    congr 1
    omega
  rw [e, PySem.W.krv_range, List.filterMap_reverse, PySem.W.krv_all]
theorem getItem_tuple_rev {prog : Program} {w : World} {A : Around} {E : Value → Shared → Prop} {s : Shared} {t sl : Addr} {items : Array Value} {vs : Value} {Q : Value → Shared → Prop} (ht : IsTup s.heap t items) (hs : s.heap.IsSliceOf sl .none .none vs) (ps : IsPart vs (some (-1)))
    (h : Q (.ref s.heap.objs.size) { s with heap := s.heap.push { cls := .type "tuple", data := .seq items.toList.reverse.toArray } })
    (hsz : items.size ≤ sizeLine) : wpAny (model prog w) A (getItem (.ref t) (.ref sl)) Q E s := by
  have htake : sizeOk (.seq items.toList.reverse.toArray) := by
    show items.toList.reverse.toArray.size ≤ sizeLine
    rw [List.size_toArray, List.length_reverse, Array.length_toList]
    exact hsz
  obtain ⟨os, hos, hcs, hds⟩ := id hs
  have hTs : s.TypeIs (.ref sl) "slice" := ⟨os, hos, hcs⟩
  unfold getItem
  refine wpAny_holding ?_
  refine wpAny_bind (wpAny_sequenceKey ht.typeIs (by decide) ?_)
  refine wpAny_bind (wpAny_callSpecial?_slot (name := Str.ofString "__getitem__") ht.typeIs PyProof.Rows.slot_tuple_getitem
    (wpAny_call_entry PyProof.Rows.slot_tuple_getitem ht.typeIs entry_tuple_getitem ?_ (args_tuple_getitem _ _)))
  show wpAny _ _ (Builtin.Tuple.tupleItemsOf (.ref t) >>= _) _ _ s
  refine wpAny_bind (tupleItemsOf_ ht ?_)
  refine wpAny_bind (wpAny_typeOf hTs ?_)
  rw [if_pos (by decide)]
  refine wpAny_bind (applied_rev hs ps ?_)
  show wpAny _ _ (if (((items.size : Int) - 1) == 0 && (-1 : Int) == 1 && items.size == items.size) = true then _ else _) _ _ s
  have hno : ¬ (((((items.size : Int) - 1) == 0) && (-1 : Int) == 1 && items.size == items.size) = true) := by
    rw [show ((-1 : Int) == 1) = false from by decide, Bool.and_false, Bool.false_and]
    exact Bool.false_ne_true
  rw [if_neg hno, pick_back]
  first
    | exact wpAny_bind (m := Builtin.Tuple.tupleExact _) (wpAny_newObj_type (wpAny_pure ⟨_, rfl, wpAny_pure h⟩) htake)
    | exact wpAny_bind (m := Builtin.Tuple.tupleExact _) (wpAny_newObj_type (wpAny_bind (wpAny_pure (wpAny_pure ⟨_, rfl, wpAny_pure h⟩))) htake)
    | exact wpAny_bind (wpAny_bind (m := Builtin.Tuple.tupleExact _) (wpAny_newObj_type (wpAny_pure (wpAny_pure ⟨_, rfl, wpAny_pure h⟩)) htake))
def tRevT (K : PySem.W.Frag) (te : TE) : TE := fun σ H Q => te σ H fun v H1 => ∃ a xs, v = .ref a ∧ SqT K H1 a xs ∧ ∀ p, H1 p = none → Q (.ref p) (upd H1 p (.tup xs.reverse))
theorem revTK (K : PySem.W.Frag) {e : Expr} {te : TE} {k : Nat} {p1 p2 p3 pos : Pos} (he : PE X e te) (hK : X.K = K := by rfl) : PE X (.Subscript e (.Slice none none (some (.UnaryOp .USub (.Constant (.int 1) k p1) p2)) p3) pos) (tRevT K te) := by
  subst hK
  refine ⟨fun pins s σ H Q I h => ?_⟩
  refine Subscript_ (thn (he.run pins s σ H _ I h) fun v s1 ⟨x, H1, I1, r1, q1⟩ => ?_)
  obtain ⟨a, xs, ex, hx, q⟩ := q1
  subst ex
  obtain rfl : v = Value.ref a := r1
  refine wpAny_Slice (thn (po_none.run pins s1 σ H1 (fun o H2 => o = none ∧ H2 = H1) I1 ⟨rfl, rfl⟩) fun vl s2 ⟨l, H2, I2, pl, el, e2⟩ => ?_)
  subst el e2
  refine thn (po_none.run pins s2 σ H2 (fun o H3 => o = none ∧ H3 = H2) I2 ⟨rfl, rfl⟩) fun vu s3 ⟨u, H3, I3, pu, eu, e3⟩ => ?_
  subst eu e3
  have hst : PO X (some (.UnaryOp .USub (.Constant (.int 1) k p1) p2)) (tPart (tUn (rU fun i => .int (-i)) (tC (.int 1)))) := po_some (pe_un un_neg pe_int)
  refine thn (hst.run pins s3 σ H3 (fun o H4 => o = some (-1) ∧ H4 = H3) I3 ⟨1, rfl, -1, rfl, rfl, rfl⟩) fun vs s4 ⟨o, H4, I4, ps, eo, e4⟩ => ?_
  subst eo e4
  cases pl
  cases pu
  have I5 : Inv X pins σ H4 { s4 with heap := s4.heap.push { cls := .type "slice", data := .fields #[.none, .none, vs] } } := I4.kept (t' := s4.toks) fun b ob q => Heap.get?_push_of_some _ q
  obtain ⟨its, r, ht, hz⟩ := I5.tuple hx
  have hlen := r.length
  show wpAny (model X.prog X.w) X.A (subscriptTail e (.Slice none none (some (.UnaryOp .USub (.Constant (.int 1) k p1) p2)) p3) (.ref a) (.ref s4.heap.objs.size)) (EP X pins σ Q) X.xe { s4 with heap := s4.heap.push { cls := .type "slice", data := .fields #[.none, .none, vs] } }
  refine tail_any (ops := [.ref a, .ref s4.heap.objs.size]) ht.typeIs (PyProof.Rows.slot_tuple_getitem.lookup) ?_ (by with_unfolding_all rfl)
  refine getItem_tuple_rev ht (Heap.IsSliceOf.new _ .none .none vs) ps ?_ (by rw [List.size_toArray]; omega)
  refine ⟨.ref _, _, I5.laid (t' := s4.toks) (o := .tup xs.reverse) (fun b ob q => Heap.get?_push_of_some _ q) (Nat.le_refl _) ?_, rfl, q _ (I5.hok.fresh (Nat.le_refl _))⟩
  exact ⟨by rw [List.length_reverse]; exact hz, _, r.reverse, IsTup.new _ _⟩
/-- a text from behind -/
def tRevS (te : TE) : TE := fun σ H Q => te σ H fun v H1 => ∃ z : Str, v = .str z ∧ z.length ≤ sizeLine ∧ Q (.str ⟨z.cps.toList.reverse.toArray⟩) H1
theorem str_back (z : Str) : ((Builtin.Str.strSliceIndices none none (-1) z.length).filterMap (z.cps[·]?)).toArray = z.cps.toList.reverse.toArray := by
  have e : Builtin.Str.strSliceIndices none none (-1) z.length = (List.range z.cps.size).reverse := by
    show sliceRange ((z.length : Int) - 1) (-1) (-1) = _
    rw [PySem.W.krv_sliceRange, PySem.W.krv_range]; rfl
  rw [e, List.filterMap_reverse, PySem.W.krv_all]
theorem pe_revS {e : Expr} {te : TE} {k : Nat} {p1 p2 p3 pos : Pos} (he : PE X e te) : PE X (.Subscript e (.Slice none none (some (.UnaryOp .USub (.Constant (.int 1) k p1) p2)) p3) pos) (tRevS te) := by
  refine ⟨fun pins s σ H Q I h => ?_⟩
  refine Subscript_ (thn (he.run pins s σ H _ I h) fun v s1 ⟨x, H1, I1, r1, q1⟩ => ?_)
  obtain ⟨z, ex, hz, q⟩ := q1
  subst ex
  obtain ⟨t, rfl⟩ := r1
  refine wpAny_Slice (thn (po_none.run pins s1 σ H1 (fun o H2 => o = none ∧ H2 = H1) I1 ⟨rfl, rfl⟩) fun vl s2 ⟨l, H2, I2, pl, el, e2⟩ => ?_)
  subst el e2
  refine thn (po_none.run pins s2 σ H2 (fun o H3 => o = none ∧ H3 = H2) I2 ⟨rfl, rfl⟩) fun vu s3 ⟨u, H3, I3, pu, eu, e3⟩ => ?_
  subst eu e3
  have hst : PO X (some (.UnaryOp .USub (.Constant (.int 1) k p1) p2)) (tPart (tUn (rU fun i => .int (-i)) (tC (.int 1)))) := po_some (pe_un un_neg pe_int)
  refine thn (hst.run pins s3 σ H3 (fun o H4 => o = some (-1) ∧ H4 = H3) I3 ⟨1, rfl, -1, rfl, rfl, rfl⟩) fun vs s4 ⟨o, H4, I4, ps, eo, e4⟩ => ?_
  subst eo e4
  cases pl
  cases pu
  obtain ⟨st, hst1, hst2⟩ := IsPart.raw ps
  have I5 : Inv X pins σ H4 { s4 with heap := s4.heap.push { cls := .type "slice", data := .fields #[.none, .none, vs] } } := I4.kept (t' := s4.toks) fun b ob q => Heap.get?_push_of_some _ q
  show wpAny (model X.prog X.w) X.A (subscriptTail e (.Slice none none (some (.UnaryOp .USub (.Constant (.int 1) k p1) p2)) p3) (.str z t) (.ref s4.heap.objs.size)) (EP X pins σ Q) X.xe { s4 with heap := s4.heap.push { cls := .type "slice", data := .fields #[.none, .none, vs] } }
  refine tail_any (ops := [.str z t, .ref s4.heap.objs.size]) (typeIs_str _ _ _) (PySem.F.slot_str_getitem.lookup) ?_ (by with_unfolding_all rfl)
  refine wpAny_getItem_str_slice (l := none) (u := none) (st := st) ⟨_, Heap.get?_push_size _ rfl, rfl, by rw [hst1]; rfl⟩ (by rw [hst2]; rfl) ?_
  have hno : ¬ (((st.map (·.1)).getD 1 == 1 && (slicePicked z none none st).length == z.length) = true) := by
    rw [hst2]
    intro c
    cases c
  unfold sliceMade
  rw [if_neg hno]
  have ep : ((slicePicked z none none st).filterMap (z.cps[·]?)).toArray = z.cps.toList.reverse.toArray := by
    rw [← str_back]
    unfold slicePicked
    rw [hst2]; rfl
  rw [ep]
  exact ⟨by show z.cps.toList.reverse.toArray.size ≤ sizeLine; rw [List.size_toArray, List.length_reverse, Array.length_toList]; exact hz, .str _, _, I5.tok _, ⟨_, rfl⟩, q⟩
end
end Up

set_option Elab.async false
set_option linter.all false
set_option maxRecDepth 100000
set_option maxHeartbeats 4000000
/-! own rule: s.join(e for a, b in zip(t, u)), t and u tuples of ints -/
namespace Up
open PySem PySem.Spec PyProof.Rows L2
section
variable {X : Cx} {pins : List (Addr × Obj)} {σ : L2.St} {H : Hp} {s : Shared}
/-- the element: from the two ints a text, wherever the generator runs -/
def PairE (prog : Program) (w : World) (scope : Scope) (xa xb : Str) (elt : Expr) (f : Int → Int → Str) : Prop :=
  ∀ (ce : Env) (B : Around) (E2 : Value → Shared → Prop) (i j : Int) (k l : Tok) (t : Shared) (m : Str → Option Value), ce.scope = scope → t.heap.Ns ce.locals m → m xa = some (.int i k) → m xb = some (.int j l) →
    wpAny (model prog w) B (eval elt ce) (fun y t' => (∃ tk, y = .str (f i j) tk) ∧ Keeps t t') E2 t
theorem pairE_lt {prog : Program} {w : World} {scope : Scope} {xa xb u d : Str} {j1 j2 : Nat} {p1 p2 p3 p4 p5 p6 : Pos} (hk : scope.kind = .function) (ha : scope.names.lookup xa = some .local) (hb : scope.names.lookup xb = some .local)
    (da : (xa == ("__debug__" : Str)) = false := by decide) (db : (xb == ("__debug__" : Str)) = false := by decide) :
    PairE prog w scope xa xb (.IfExp (.Compare (.Name xa p1) [.Lt] [.Name xb p2] p3) (.Constant (.str u) j1 p4) (.Constant (.str d) j2 p5) p6) (fun i j => if i < j then u else d) := by
  intro ce B E2 i j k l t m hs hn hma hmb
  subst hs
  refine wpAny_IfExp (wpAny_isTrue_Compare1 ?_ (nomark _))
  refine wpAny_Name (wpAny_loadName_local hk ha hn hma ?_) da
  refine wpAny_Name (wpAny_loadName_local hk hb hn hmb ?_) db
  refine lt_int (wpAny_truthy_bool ?_)
  by_cases c : i < j
  · rw [decide_eq_true c]
    show wpAny _ _ (eval (.Constant (.str u) j1 p4) ce) _ _ _
    refine wpAny_Constant_str ⟨⟨_, by show Value.str u _ = Value.str (if i < j then u else d) _; rw [if_pos c]⟩, GxR.keeps_tok _ _⟩
  · rw [decide_eq_false c]
    show wpAny _ _ (eval (.Constant (.str d) j2 p5) ce) _ _ _
    refine wpAny_Constant_str ⟨⟨_, by show Value.str d _ = Value.str (if i < j then u else d) _; rw [if_neg c]⟩, GxR.keeps_tok _ _⟩
theorem nq {a b : Nat} (h : a ≠ b) : @Ne Addr a b := h
theorem nm {x y z : Nat} (h1 : x ≠ y) (h2 : x ≠ z) : ¬ @Membership.mem Addr (List Addr) _ [y, z] x := fun h => by
  rcases List.mem_cons.mp h with e | e
  · exact h1 e
  · exact h2 (List.mem_singleton.mp e)
theorem gen_zip {c P : Addr} {elt e e2 : Expr} {xa xb : Str} {pa pb pt pz qz gpos : Pos} {kt : Nat} {scope : Scope} {k : Nat} {ta : TA} {f : Int → Int → Str} {Q' : Value → Shared → Prop} {R : List Int → List Int → Hp → Prop}
    (hr : Room k X.A) (TB : GxR.TabB X.base X.mg c P) (hcode : X.env.code = .ref c) (Sa : GxR.GenS X.env scope xa) (Sb : GxR.GenS X.env scope xb) (hab : xa ≠ xb) (hg : Gl X "zip") (hm : X.mg "zip" = none) (ha : PA X [e, e2] ta) (hel : PairE X.prog X.w scope xa xb elt f)
    (hs : ∀ v, genFold (.Call (.Name "zip" pz) [e, e2] [] qz) X.env v = pure v) (hs1 : starEach [e, e2] X.env = (false, eval e X.env) :: starEach [e2] X.env) (hpl : (backTo qz (starEach [e2] X.env)).any (·.1) = false)
    (I : Inv X pins σ H s) (h : ta σ H fun vs H1 => ∃ (a b : Addr) (xs ys : List Int), vs = [.ref a, .ref b] ∧ SqT X.K H1 a (xs.map V.int) ∧ SqT X.K H1 b (ys.map V.int) ∧ GxR.TabG H1 P ∧ R xs ys H1)
    (hQ : ∀ xs ys H1 g s5, R xs ys H1 → Rdy X pins σ H1 P (min xs.length ys.length) (fun _ => true) (fun i y => ∃ a b t, xs[i]? = some a ∧ ys[i]? = some b ∧ y = .str (f a b) t) g s5 → Q' (.ref g) s5) :
    wpAny (model X.prog X.w) X.A (eval (.GeneratorExp elt [⟨.Tuple [.Name xa pa, .Name xb pb] kt pt, .Call (.Name "zip" pz) [e, e2] [] qz, [], 0⟩] scope gpos) X.env) Q' X.xe s := by
  refine wpAny_GeneratorExp_walksQTD hr.hd Sa.co (closure_ok Sa.free) Sa.cell Sa.dot Sa.loc Sb.loc hab Sa.kind (by have := hr.dp; omega) ?_ hs
  refine Call_ (ld_blt I hg hm PyProof.Rows.boot_zip (PyProof.Rows.callWith_type1 (thn (ha.run qz pins s σ H _ I h) fun us s1 ⟨vs, H1, I1, r1, q1⟩ => ?_) hs1 hpl))
  obtain ⟨a, b, xs, ys, ex, hqx, hqy, ⟨ps, hP, ht⟩, hR⟩ := q1
  subst ex
  obtain ⟨u1, u2, rfl, ra, rb⟩ := vals2 r1
  obtain rfl : u1 = Value.ref a := ra
  obtain rfl : u2 = Value.ref b := rb
  obtain ⟨its, rv, p1, _⟩ := I1.tuple hqx
  obtain ⟨its2, rv2, p2, _⟩ := I1.tuple hqy
  obtain ⟨o1, ho1, hc1, n1, hd1⟩ := id p1
  obtain ⟨o2, ho2, hc2, n2, hd2⟩ := id p2
  have la : a < s1.heap.objs.size := Heap.lt_size ho1
  have lb : b < s1.heap.objs.size := Heap.lt_size ho2
  have ePs : s1.heap.get? P = some { cls := .none, data := .fields ps } := I1.hok P _ hP
  have lP : P < s1.heap.objs.size := Heap.lt_size ePs
  have aP : a ≠ P := fun z => by
    rw [z, ePs] at ho1
    cases ho1
    cases hc1
  have bP : b ≠ P := fun z => by
    rw [z, ePs] at ho2
    cases ho2
    cases hc2
  refine RZ.call_zipT (show s1.heap.IsTuple a its.toArray from p1) (show s1.heap.IsTuple b its2.toArray from p2) fun h' hz hTI hTO h1 h2 hsz hk => wpAny_pyIter_zip hz ?_
  have I2 : Inv X pins σ H1 { s1 with heap := h' } := I1.kept (t' := s1.toks) hk
  refine ⟨I2.nolimit, ?_⟩
  have eP2 : h'.get? P = some { cls := .none, data := .fields ps } := hk _ _ ePs
  have ccd : PySem.W.CodeHd h' c P := TB.code.keeps fun b u e => I2.bk b u e
  -- the def's table may grow by the generator's code
  have hcw : wpAny (model X.prog X.w) X.A (genexprCode X.env gpos (X.env.qual ++ "<genexpr>") scope) (fun _ s3 => ∃ h3 tk more, s3 = { s1 with heap := h3, toks := tk } ∧ Heap.ExtBut P h' h3 ∧ h'.objs.size ≤ h3.objs.size ∧
      h3.get? P = some { cls := .none, data := .fields (ps ++ more) } ∧ TriplesOk (ps ++ more).toList) X.xe { s1 with heap := h' } := by
    cases hf : codeAmong gpos ps.toList with
    | none =>
      refine wpAny_genexprCodeX hcode (ccd.code eP2 ht) (ccd.tab eP2) hf fun c' h3 tk hx hge hlt hco' _ htab' _ => ?_
      obtain ⟨_, _, _, _, _, _, _, _, _, _, _, _, _, _, _, _, _, _, _, trip, _⟩ := hco'
      exact ⟨h3, tk, _, rfl, hx, Nat.le_trans hge (Nat.le_of_lt hlt), htab'.2, trip⟩
    | some cv =>
      refine wpAny_genexprCode_hit hcode (ccd.code eP2 ht) hf ?_
      exact ⟨h', s1.toks, #[], rfl, Heap.ExtBut.refl _ _, Nat.le_refl _, by rw [Array.append_empty]; exact eP2, by rw [Array.append_empty]; exact ht⟩
  refine wpAny_mono hcw (fun code s3 hc3 => ?_) fun _ _ e => e
  obtain ⟨h3, tk, more, rfl, hx, hsz3, hP3, ht3⟩ := hc3
  obtain ⟨bm, ob, b1, b2, b3, b4, b5, b6, b7, b8⟩ := TB.bm
  have kp3 : ∀ b u, b ≠ P → h'.get? b = some u → h3.get? b = some u := fun b u hb e => hx b u hb e
  have neP : cStatics ≠ P := fun e => by
    obtain ⟨_, ⟨o', es, ep, ho, hd, _⟩, _⟩ := I1.nolimit
    rw [e, ePs] at ho
    cases ho
    cases hd
  have ltS : cStatics < s1.heap.objs.size := let ⟨_, hns, _⟩ := I1.nolimit; hns.lt
  refine wpAny_builtinsFor (m := X.mg) (by rw [I1.ok.glob]; exact (I2.mod.glob.keeps I2.bk).extBut hx TB.gP) b1 b2 (kp3 _ _ b4 (I2.bk _ _ b5)) b6 b7 b8 ?_
  generalize hN : s1.heap.objs.size = N at *
  have D : ZipSep2 (N + 4) (N + 2) (N + 3) N (N + 1) [N, a] [N + 1, b] := by
    have la2 : @LT.lt Nat _ a N := la
    have lb2 : @LT.lt Nat _ b N := lb
    exact ⟨nq (by omega), nq (by omega), nq (by omega), nq (by omega), List.mem_cons_self, nm (by omega) (by omega), nm (by omega) (by omega), nq (by omega), List.mem_cons_self, nm (by omega) (by omega), nm (by omega) (by omega), nm (by omega) (by omega), nm (by omega) (by omega)⟩
  have en : min its.toArray.size its2.toArray.size = min xs.length ys.length := by
    rw [List.size_toArray, List.size_toArray, ← rv.length, ← rv2.length, List.length_map, List.length_map]
  have W : ∀ A' : Around, A'.handled = none → WalksU X.prog X.w A' (N + 4) ((N + 4) :: (N + 2) :: (N + 3) :: ([N, a] ++ [N + 1, b])) [N + 4, N + 3, N, N + 1] (min xs.length ys.length) _ _ _ := fun A' hA => by
    rw [← en]
    exact (WalksT.zipD2 D (Draws.tuple (A := A'.in1) hA N a (Nat.ne_of_lt la) its.toArray) (Draws.tuple (A := A'.in1) hA (N + 1) b (Nat.ne_of_lt (Nat.lt_succ_of_lt lb)) its2.toArray)).toU
  refine ⟨N + 4, _, [N + 4, N + 3, N, N + 1], min xs.length ys.length, _, _, _, fun _ => true, fun i y => ∃ a b t, xs[i]? = some a ∧ ys[i]? = some b ∧ y = .str (f a b) t, rfl, W, ?_, ?_, ?_, I2.nolimit.extBut hx neP, ?_, ?_, ?_⟩
  · rintro i vals ⟨x1, x2, _, _, rfl⟩
    exact ⟨x1, x2, rfl⟩
  · have up : ∀ d : Nat, @Ne Addr (N + d) P := fun d => Nat.ne_of_gt (Nat.lt_of_lt_of_le lP (Nat.le_add_right N d))
    refine ⟨kp3 _ _ (up 4) hz, kp3 _ _ (up 2) hTI, ⟨_, _, kp3 _ _ (up 3) hTO⟩, ⟨h1.at fun o q => kp3 _ o (up 0) q, ?_⟩, ⟨h2.at fun o q => kp3 _ o (up 1) q, ?_⟩⟩
    · exact ⟨o1, kp3 _ _ aP (hk _ _ ho1), hc1, n1, hd1⟩
    · exact ⟨o2, kp3 _ _ bP (hk _ _ ho2), hc2, n2, hd2⟩
  · intro b' hb'
    have k5 : ∀ d : Nat, d < 5 → N + d < h3.objs.size := fun d hd => by omega
    have la2 : (a : Nat) < h3.objs.size := Nat.lt_of_lt_of_le la (by omega)
    have lb2 : (b : Nat) < h3.objs.size := Nat.lt_of_lt_of_le lb (by omega)
    have e : b' = N + 4 ∨ b' = N + 2 ∨ b' = N + 3 ∨ b' = N ∨ b' = a ∨ b' = N + 1 ∨ b' = b := by simpa using hb'
    rcases e with z | z | z | z | z | z | z
    · rw [z]; exact k5 4 (by decide)
    · rw [z]; exact k5 2 (by decide)
    · rw [z]; exact k5 3 (by decide)
    · rw [z]; exact k5 0 (by decide)
    · rw [z]; exact la2
    · rw [z]; exact k5 1 (by decide)
    · rw [z]; exact lb2
  · have up : ∀ d : Nat, @Ne Addr cStatics (N + d) := fun d => Nat.ne_of_lt (Nat.lt_of_lt_of_le ltS (Nat.le_add_right N d))
    intro z
    have e : cStatics = N + 4 ∨ cStatics = N + 3 ∨ cStatics = N ∨ cStatics = N + 1 := by simpa using z
    rcases e with z | z | z | z
    · exact up 4 z
    · exact up 3 z
    · exact up 0 z
    · exact up 1 z
  · intro href hh
    refine ⟨fun A' E' i va vb t m hA hD hU hPt hn hma hmb kt => ?_, fun A' E' i va vb t m hA hD hU hPt _ hn hma hmb kt => ?_⟩
    · simp only [List.forIn_nil]
      exact wpAny_pure ⟨rfl, GxR.keeps_refl _⟩
    · obtain ⟨x1, x2, e1, e2, e3⟩ := hPt
      have e4 : [va, vb] = [x1, x2] := congrArg Array.toList e3
      have e5 : va = x1 := (List.cons.inj e4).1
      have e6 : vb = x2 := (List.cons.inj (List.cons.inj e4).2).1
      subst e5 e6
      rw [List.getElem?_toArray] at e1 e2
      have l1 : i < (xs.map V.int).length := by
        rw [rv.length]
        exact (List.getElem?_eq_some_iff.mp e1).1
      have l2 : i < (ys.map V.int).length := by
        rw [rv2.length]
        exact (List.getElem?_eq_some_iff.mp e2).1
      obtain ⟨w1, hw1, rw1⟩ := rv.get (List.getElem?_eq_getElem l1)
      obtain ⟨w2, hw2, rw2⟩ := rv2.get (List.getElem?_eq_getElem l2)
      rw [e1] at hw1
      rw [e2] at hw2
      obtain rfl := Option.some.inj hw1
      obtain rfl := Option.some.inj hw2
      rw [List.getElem_map] at rw1 rw2
      rw [List.length_map] at l1 l2
      obtain ⟨k1, rfl⟩ := rw1
      obtain ⟨k2, rfl⟩ := rw2
      exact wpAny_mono (hel _ A' E' _ _ k1 k2 t m rfl hn hma hmb) (fun y t' hy => ⟨let ⟨tk, e⟩ := hy.1; ⟨_, _, tk, List.getElem?_eq_getElem l1, List.getElem?_eq_getElem l2, e⟩, hy.2⟩) fun _ _ e => e
  · intro g h5 tk5 gs hgb hag hsz5 hk5 W5 hat
    refine hQ xs ys H1 g _ hR ⟨_, _, _, _, W5, hat, fun b' hb' => ?_, List.mem_cons_self, fun i t ht9 => ?_, fun s' hm' => ?_⟩
    · show b' < h5.objs.size
      rcases List.mem_cons.mp hb' with z | z
      · rw [z, hsz5]; exact Nat.lt_succ_self g
      · rcases List.mem_cons.mp z with z | z
        · rw [z, hsz5]; exact Nat.lt_succ_of_lt hag
        · rw [hsz5]; exact Nat.lt_succ_of_lt (Nat.lt_trans (List.mem_range.mp z) hag)
    · exact Heap.IsGen.typeIs ht9.1
    · have nwr : ∀ b u, s1.heap.get? b = some u → b ∉ h3.objs.size :: [N + 4, N + 3, N, N + 1] := fun b u e hb => by
        have lb : @LT.lt Nat _ b N := hN ▸ Heap.lt_size e
        have e' : b = h3.objs.size ∨ b = N + 4 ∨ b = N + 3 ∨ b = N ∨ b = N + 1 := by simpa using hb
        have up : ∀ d : Nat, @LT.lt Nat _ b (N + d) := fun d => Nat.lt_of_lt_of_le lb (Nat.le_add_right N d)
        rcases e' with z | z | z | z | z
        · have : @LT.lt Nat _ b h3.objs.size := Nat.lt_of_lt_of_le lb (by omega)
          exact Nat.ne_of_lt this z
        · exact Nat.ne_of_lt (up 4) z
        · exact Nat.ne_of_lt (up 3) z
        · exact Nat.ne_of_lt (up 0) z
        · exact Nat.ne_of_lt (up 1) z
      have J := GxR.inv_tab (more := more) (h' := s'.heap) (g' := s'.gens) (d' := s'.drawn) (t' := s'.toks) I1 hP (fun b u hb e => hm'.heap b u (nwr b u e) (hk5 b u (kp3 b u hb (hk b u e))))
        (hm'.heap P _ (nwr P _ ePs) (hk5 P _ hP3)) (AllBare.movedS (I1.bare.push hgb) hm')
      rw [GxR.sh_eta s1 s' hm'.os] at J
      exact ⟨upd H1 P (.tbl (ps ++ more)), ⟨⟨ps ++ more, upd_same, ht3⟩, fun b hb => upd_ne hb⟩, J⟩
/-- what the generator yields, joined -/
def pairsL (f : Int → Int → Str) (xs ys : List Int) : List Str := (List.range (min xs.length ys.length)).map fun i => f (xs.getD i 0) (ys.getD i 0)
def tJoinZ (K : PySem.W.Frag) (P : Addr) (f : Int → Int → Str) (to : TE) (ta : TA) : TE := fun σ H Q => to σ H fun v H1 => ∃ sep : Str, v = .str sep ∧ ta σ H1 fun vs H2 => ∃ (a b : Addr) (xs ys : List Int), vs = [.ref a, .ref b] ∧ SqT K H2 a (xs.map V.int) ∧ SqT K H2 b (ys.map V.int) ∧ GxR.TabG H2 P ∧
  (JoinOk sep (pairsL f xs ys) = true ∧ min xs.length ys.length ≤ sizeLine ∧ ∀ H3, GxR.Tabbed P H2 H3 → Q (.str (Txt.join sep (pairsL f xs ys))) H3)
theorem pe_joinZ {c P : Addr} {o elt e e2 : Expr} {xa xb : Str} {pa pb pt pz qz apos cpos gpos : Pos} {kt : Nat} {scope : Scope} {k : Nat} {to : TE} {ta : TA} {f : Int → Int → Str}
    (hr : Room k X.A) (TB : GxR.TabB X.base X.mg c P) (hcode : X.env.code = .ref c) (Sa : GxR.GenS X.env scope xa) (Sb : GxR.GenS X.env scope xb) (hab : xa ≠ xb) (hg : Gl X "zip") (hm : X.mg "zip" = none) (ho : PE X o to) (ha : PA X [e, e2] ta) (hel : PairE X.prog X.w scope xa xb elt f)
    (hs : ∀ v, genFold (.Call (.Name "zip" pz) [e, e2] [] qz) X.env v = pure v) (hs1 : starEach [e, e2] X.env = (false, eval e X.env) :: starEach [e2] X.env := by rfl) (hpl : (backTo qz (starEach [e2] X.env)).any (·.1) = false := by rfl)
    (hbase : attributeBase o "join" X.env (eval o X.env) = eval o X.env := by rfl)
    (hfew : ((backTo cpos (starEach [.GeneratorExp elt [⟨.Tuple [.Name xa pa, .Name xb pb] kt pt, .Call (.Name "zip" pz) [e, e2] [] qz, [], 0⟩] scope gpos] X.env)).all (fun x => !x.1) && (backToKw cpos (keywordEach [] X.env)).all (fun x => x.1.isSome)
      && decide (([.GeneratorExp elt [⟨.Tuple [.Name xa pa, .Name xb pb] kt pt, .Call (.Name "zip" pz) [e, e2] [] qz, [], 0⟩] scope gpos] : List Expr).length + ([] : List Keyword).length + (if ([] : List Keyword).isEmpty then 0 else 1) < 30)) = true := by rfl)
    (hline : (apos.endLine == cpos.line) = true := by rfl)
    (he : starEach [.GeneratorExp elt [⟨.Tuple [.Name xa pa, .Name xb pb] kt pt, .Call (.Name "zip" pz) [e, e2] [] qz, [], 0⟩] scope gpos] X.env = (false, eval (.GeneratorExp elt [⟨.Tuple [.Name xa pa, .Name xb pb] kt pt, .Call (.Name "zip" pz) [e, e2] [] qz, [], 0⟩] scope gpos) X.env) :: starEach [] X.env := by rfl)
    (hplain : (backTo cpos (starEach [] X.env)).any (·.1) = false := by rfl) :
    PE X (.Call (.Attribute o "join" apos) [.GeneratorExp elt [⟨.Tuple [.Name xa pa, .Name xb pb] kt pt, .Call (.Name "zip" pz) [e, e2] [] qz, [], 0⟩] scope gpos] [] cpos) (tJoinZ X.K P f to ta) := by
  refine ⟨fun pins s σ H Q I h => ?_⟩
  refine wpAny_Call_method_late hbase hfew hline rfl (thn (ho.run pins s σ H _ I h) fun v s1 ⟨x', H1, I1, r1, sep, ex, q1⟩ => ?_)
  subst ex
  obtain ⟨tk, rfl⟩ := (show ∃ t, v = Value.str sep t from r1)
  refine ⟨"str", _, PySem.F.plainAttrs_str, PySem.F.slot_str_join, PySem.F.type_str_join, typeIs_str _ _ _, (fun _ e => nomatch e), ?_⟩
  rw [he]
  refine Calls.callWith_builtin (by show (false || (backTo cpos (starEach [] X.env)).any (·.1)) = false; rw [hplain] <;> rfl) (Calls.evalArgs_plain ?_)
  show wpAny _ _ (spliced ((false, eval (.GeneratorExp elt [⟨.Tuple [.Name xa pa, .Name xb pb] kt pt, .Call (.Name "zip" pz) [e, e2] [] qz, [], 0⟩] scope gpos) X.env) :: backTo cpos (starEach [] X.env))) _ _ s1
  refine Calls.spliced_cons (gen_zip (R := fun xs ys H2 => JoinOk sep (pairsL f xs ys) = true ∧ min xs.length ys.length ≤ sizeLine ∧ ∀ H3, GxR.Tabbed P H2 H3 → Q (.str (Txt.join sep (pairsL f xs ys))) H3) hr TB hcode Sa Sb hab hg hm ha hel hs hs1 hpl I1 q1 fun xs ys H2 g s5 hR hG => ?_)
  refine Calls.spliced_nil ?_
  obtain ⟨fp, wr, G, St, W, hst, hfp, hgm, hT, hinv⟩ := hG
  obtain ⟨jok, jl, jq⟩ := hR
  have ln : (passing (fun _ => true) (min xs.length ys.length) 0).length = min xs.length ys.length := by rw [GxR.passing_true, List.length_range]
  refine PySem.SC.joinGen (x := sep) W.of_in1.of_in1 (fun i s st => hT i s st) hst hfp hgm (fun i v hv => ?_) (fun s' l hm' hio => ?_) (by rw [ln]; exact jl)
  · obtain ⟨_, _, a, b, t, _, _, e⟩ := hv
    exact ⟨_, _, e⟩
  · have hl0 : l.length = min xs.length ys.length := by
      have e0 := hio.1
      rw [List.size_toArray, ln] at e0
      unfold strValues at e0
      rw [List.length_map] at e0
      exact e0
    have e : l.map (·.1) = pairsL f xs ys := by
      refine List.ext_getElem? fun j => ?_
      unfold pairsL
      rw [List.getElem?_map, List.getElem?_map]
      cases hj : l[j]? with
      | none =>
        have h1 := List.getElem?_eq_none_iff.mp hj
        rw [List.getElem?_eq_none (by rw [List.length_range]; omega)]; rfl
      | some p =>
        have hjl : j < min xs.length ys.length := by rw [← hl0]; exact (List.getElem?_eq_some_iff.mp hj).1
        have h2 : (strValues l).toArray[j]? = some (.str p.1 p.2) := by
          show (strValues l).toArray[j]? = _
          rw [List.getElem?_toArray]
          unfold strValues
          rw [List.getElem?_map, hj]; rfl
        obtain ⟨i, hi, a, b, t, ha1, hb1, ev⟩ := hio.2 j _ h2
        rw [GxR.passing_true, List.getElem?_range hjl] at hi
        obtain rfl := Option.some.inj hi
        have e1 : p.1 = f a b := by
          injection ev
        rw [List.getElem?_range hjl]
        show some p.1 = some (f (xs.getD j 0) (ys.getD j 0))
        rw [e1, List.getD_eq_getElem?_getD, List.getD_eq_getElem?_getD, ha1, hb1]; rfl
    obtain ⟨H3, ht, J⟩ := hinv s' hm'
    rw [e]
    exact ⟨jok, fun t' k' => ⟨.str _, H3, J.tok k', ⟨t', rfl⟩, jq H3 ht⟩⟩
end
end Up

set_option Elab.async false
set_option linter.all false
set_option maxRecDepth 100000
set_option maxHeartbeats 2000000
/-! texts of turns -/
namespace Up
open PySem PySem.Spec PyProof.Rows L2
theorem op_mulS {X : Cx} : OpR X (binaryOp .Mult) (fun x y H Q => ∃ (a : Str) (n : Int), x = .str a ∧ y = .int n ∧ MulOk a n ∧ Q (.str (Txt.mul a n)) H) := by
  intro pins s σ H x y v u Q I rx ry h
  obtain ⟨a, n, rfl, rfl, ok, q⟩ := h
  obtain ⟨t, rfl⟩ := rx
  obtain ⟨t', rfl⟩ := ry
  exact SB.mul ok fun t2 k => ⟨.str (Txt.mul a n), H, I.tok _, ⟨_, rfl⟩, q⟩
def sgB (b : Bool) : Nat := if b = true then 117 else 100
def textB (bs : List Bool) : Str := ⟨(bs.map sgB).toArray⟩
def oneB (b : Bool) : Str := if b = true then "u" else "d"
theorem one_cps (b : Bool) : (oneB b).cps.toList = [sgB b] := by
  cases b <;> rfl
theorem textB_inj {a b : List Bool} (h : textB a = textB b) : a = b := by
  have e : a.map sgB = b.map sgB := by
    have := congrArg (fun s : Str => s.cps.toList) h
    simpa [textB] using this
  induction a generalizing b with
  | nil => cases b with
    | nil => rfl
    | cons y ys => cases e
  | cons x xs ih => cases b with
    | nil => cases e
    | cons y ys =>
      rw [List.map_cons, List.map_cons] at e
      obtain ⟨e1, e2⟩ := List.cons.inj e
      have : x = y := by
        revert e1
        cases x <;> cases y <;> decide
      rw [this, ih (b := ys) (by unfold textB; rw [e2]) e2]
theorem fold_cps : ∀ (ps : List Str) (acc : Array Nat), (ps.foldl (fun a p => a ++ ("" : Str).cps ++ p.cps) acc).toList = acc.toList ++ ps.flatMap fun p => p.cps.toList
  | [], acc => by simp
  | p :: ps, acc => by
    rw [List.foldl_cons, fold_cps ps]
    have e : ("" : Str).cps = #[] := rfl
    rw [e, List.flatMap_cons]
    simp
theorem join_cps (ps : List Str) : (Txt.join "" ps).cps.toList = ps.flatMap fun p => p.cps.toList := by
  show ((ps.drop 1).foldl (fun a p => a ++ ("" : Str).cps ++ p.cps) (ps.headD Str.empty).cps).toList = _
  rw [fold_cps]
  cases ps with
  | nil => rfl
  | cons p ps => rfl
theorem join_signs (bs : List Bool) : Txt.join "" (bs.map oneB) = textB bs := by
  have e := join_cps (bs.map oneB)
  have e2 : (bs.map oneB).flatMap (fun p => p.cps.toList) = bs.map sgB := by
    induction bs with
    | nil => rfl
    | cons b bs ih => rw [List.map_cons, List.flatMap_cons, one_cps, ih (join_cps _)]; rfl
  rw [e2] at e
  unfold textB
  rw [← e]
theorem len_signs : ∀ (bs : List Bool) (n : Nat), (bs.map oneB).foldl (fun n p => n + p.length + ("" : Str).length) n = n + bs.length
  | [], n => rfl
  | b :: bs, n => by
    rw [List.map_cons, List.foldl_cons, len_signs bs]
    have e : (oneB b).length = 1 := by cases b <;> rfl
    have e2 : ("" : Str).length = 0 := rfl
    rw [e, e2, List.length_cons]; omega
theorem joinOk_signs {bs : List Bool} (h : bs.length ≤ 1000) : JoinOk "" (bs.map oneB) = true := by
  unfold JoinOk
  rw [List.foldl_toArray, len_signs]
  have : Builtin.Str.tooLong (0 + bs.length) = false := by
    unfold Builtin.Str.tooLong
    exact decide_eq_false (by rw [sizeLine_eq]; omega)
  rw [this]; rfl
def altB (b : Bool) : Nat → List Bool
  | 0 => []
  | n + 1 => b :: altB (!b) n
theorem alt_not (b : Bool) : ∀ n, altB (!b) n = (altB b n).map not
  | 0 => rfl
  | n + 1 => by
    show (!b) :: altB (!(!b)) n = (!b) :: (altB (!b) n).map not
    rw [alt_not (!b) n]
def tb (l : List Int) : List Bool := (List.range (l.length - 1)).map fun i => decide (l.getD i 0 < l.getD (i + 1) 0)
theorem tb_len (l : List Int) : (tb l).length = l.length - 1 := by unfold tb; rw [List.length_map, List.length_range]
theorem pairs_tb (l : List Int) : pairsL (fun i j => if i < j then ("u" : Str) else "d") l (l.drop 1) = (tb l).map oneB := by
  unfold pairsL tb
  have e : min l.length (l.drop 1).length = l.length - 1 := by rw [List.length_drop]; omega
  rw [e, List.map_map]
  refine List.map_congr_left fun i hi => ?_
  have hi := List.mem_range.mp hi
  show (if l.getD i 0 < (l.drop 1).getD i 0 then ("u" : Str) else "d") = oneB (decide (l.getD i 0 < l.getD (i + 1) 0))
  have e2 : (l.drop 1).getD i 0 = l.getD (i + 1) 0 := by
    rw [List.getD_eq_getElem?_getD, List.getD_eq_getElem?_getD, List.getElem?_drop, Nat.add_comm]
  rw [e2]
  unfold oneB
  by_cases c : l.getD i 0 < l.getD (i + 1) 0
  · rw [if_pos c, if_pos (decide_eq_true c)]
  · rw [if_neg c, if_neg (by rw [decide_eq_false c]; exact Bool.false_ne_true)]
def both (b : Bool) : Str := if b = true then "ud" else "du"
theorem both_cut {b : Bool} {n : Nat} (h1 : 1 ≤ n) (h : n ≤ 40) : cutS (Txt.mul (both b) (n : Int)) none (some ((n : Int) - 1)) = textB (altB b (n - 1)) := by
  have key : ([true, false].all fun b => (List.range 41).all fun n => decide (n = 0) || decide (cutS (Txt.mul (both b) (n : Int)) none (some ((n : Int) - 1)) = textB (altB b (n - 1)))) = true := by decide +kernel
  have z := List.all_eq_true.mp (List.all_eq_true.mp key b (by cases b <;> simp)) n (List.mem_range.mpr (by omega))
  rw [Bool.or_eq_true] at z
  cases z with
  | inl e => have := of_decide_eq_true e; omega
  | inr e => exact of_decide_eq_true e
theorem both_len {b : Bool} {n : Nat} (h : n ≤ 40) : (Txt.mul (both b) (n : Int)).length ≤ sizeLine ∧ MulOk (both b) (n : Int) := by
  have key : ([true, false].all fun b => (List.range 41).all fun n => decide ((Txt.mul (both b) (n : Int)).length ≤ 1000)) = true := by decide +kernel
  have z := of_decide_eq_true (List.all_eq_true.mp (List.all_eq_true.mp key b (by cases b <;> simp)) n (List.mem_range.mpr (by omega)))
  refine ⟨Nat.le_trans z (by decide), ?_, fun h1 _ => ?_, fun _ _ => ?_⟩
  · rw [decide_eq_false (by omega), decide_eq_false (by omega)]; rfl
  · have e : (both b).length = 2 := by cases b <;> rfl
    rw [e]
    have : (2 ^ 63 - 1 : Int) / (n : Int) ≥ (2 ^ 63 - 1) / 40 := by
      refine Int.le_ediv_of_mul_le (by omega) ?_
      omega
    omega
  · have e : (both b).length = 2 := by cases b <;> rfl
    rw [e]
    unfold Builtin.Str.tooLong
    exact decide_eq_false (by rw [sizeLine_eq]; omega)
/-- a comprehension over the signs of a text -/
theorem lc_text {z : Str} {g : L2.TG} {tt : TT} {te : TE} {own : List Nat} {σ : L2.St} {Ha : Hp} {D : Addr} {Qd : Hp → Prop} (G : Nat → Hp → Prop) (first : G 0 (upd Ha D (.lst [])))
    (turn : ∀ (j : Nat) (c : Nat) (Hb : Hp), z.cps[j]? = some c → G j Hb →
      g (.str ⟨#[c]⟩) (wipe σ own) Hb fun τ Hc =>
        wipe τ own = wipe σ own ∧
        tt τ Hc fun yes Hd =>
          if yes = true then
            te τ Hd fun y He => ∃ acc, He D = some (.lst acc) ∧ acc.length < sizeLine ∧
              G (j + 1) (upd He D (.lst (acc ++ [y])))
          else G (j + 1) Hd)
    (last : ∀ Hz, G z.cps.size Hz → Qd Hz) :
    ∃ W : Nat → Nat → Hp → Prop, (∃ n, W 0 n (upd Ha D (.lst []))) ∧
      ∀ j n Hb, W j n Hb →
        ((Its z).stop j Hb ∧ Qd Hb) ∨
        ((Its z).go j Hb ∧ ∃ Nx : Hp → Prop,
          (∀ Hk, Nx Hk → ∃ n', n' < n ∧ W (j + 1) n' Hk) ∧
          ∀ v Hk, (Its z).yld j Hb v Hk →
            g v (wipe σ own) Hk fun τ Hc =>
              wipe τ own = wipe σ own ∧
              tt τ Hc fun yes Hd =>
                if yes = true then
                  te τ Hd fun y He => ∃ acc, He D = some (.lst acc) ∧ acc.length < sizeLine ∧
                    Nx (upd He D (.lst (acc ++ [y])))
                else Nx Hd) := by
  refine ⟨fun j n Hb => n = z.cps.size - j ∧ j ≤ z.cps.size ∧ G j Hb, ⟨z.cps.size, by simp, Nat.zero_le _, first⟩, ?_⟩
  rintro j n Hb ⟨rfl, hj, hG⟩
  rcases Nat.lt_or_ge j z.cps.size with lt | ge
  · refine .inr ⟨lt, G (j + 1), fun Hk k => ⟨z.cps.size - (j + 1), by omega, rfl, lt, k⟩, fun v Hk y => ?_⟩
    obtain ⟨rfl, c, hc, rfl⟩ := y
    exact turn j c _ hc hG
  · have e : j = z.cps.size := by omega
    rw [e] at hG
    exact .inl ⟨ge, last _ hG⟩
end Up

set_option Elab.async false
set_option linter.all false
set_option maxRecDepth 100000
set_option maxHeartbeats 4000000
namespace K08
open PySem PySem.Spec PyProof.Rows L2 Up
abbrev pw : Program := PySem.Challenge.pw_upanddowns_k08_whole_orders
def topS (i : Nat) : Stmt := PySem.Challenge.pw_upanddowns_k08_whole_orders.main.body.getD i (.Pass ⟨0, 0, 0, 0⟩)
abbrev S_is_whole : Stmt := topS 6
abbrev N_is_whole : List Str := ["thing"]
theorem sc_is_whole : FnScope N_is_whole ["thing"] (defScope S_is_whole) := ⟨rfl, rfl, rfl, by decide +kernel, rfl, by decide +kernel, by decide +kernel⟩
abbrev S_need_number : Stmt := topS 7
abbrev N_need_number : List Str := ["thing", "least", "most"]
theorem sc_need_number : FnScope N_need_number ["thing", "least", "most"] (defScope S_need_number) := ⟨rfl, rfl, rfl, by decide +kernel, rfl, by decide +kernel, by decide +kernel⟩
abbrev S_is_whole_tuple : Stmt := topS 10
abbrev N_is_whole_tuple : List Str := ["thing", "number"]
theorem sc_is_whole_tuple : FnScope N_is_whole_tuple ["thing"] (defScope S_is_whole_tuple) := ⟨rfl, rfl, rfl, by decide +kernel, rfl, by decide +kernel, by decide +kernel⟩
abbrev S_is_order : Stmt := topS 11
abbrev N_is_order : List Str := ["thing"]
theorem sc_is_order : FnScope N_is_order ["thing"] (defScope S_is_order) := ⟨rfl, rfl, rfl, by decide +kernel, rfl, by decide +kernel, by decide +kernel⟩
abbrev S_is_row : Stmt := topS 12
abbrev N_is_row : List Str := ["thing"]
theorem sc_is_row : FnScope N_is_row ["thing"] (defScope S_is_row) := ⟨rfl, rfl, rfl, by decide +kernel, rfl, by decide +kernel, by decide +kernel⟩
abbrev S_need_order : Stmt := topS 13
abbrev N_need_order : List Str := ["thing"]
theorem sc_need_order : FnScope N_need_order ["thing"] (defScope S_need_order) := ⟨rfl, rfl, rfl, by decide +kernel, rfl, by decide +kernel, by decide +kernel⟩
abbrev S_need_row : Stmt := topS 14
abbrev N_need_row : List Str := ["thing"]
theorem sc_need_row : FnScope N_need_row ["thing"] (defScope S_need_row) := ⟨rfl, rfl, rfl, by decide +kernel, rfl, by decide +kernel, by decide +kernel⟩
abbrev S_turns : Stmt := topS 15
abbrev N_turns : List Str := ["order", "number", "behind"]
theorem sc_turns : FnScope N_turns ["order"] (defScope S_turns) := ⟨rfl, rfl, rfl, by decide +kernel, rfl, by decide +kernel, by decide +kernel⟩
abbrev S_goes_by_turns : Stmt := topS 16
abbrev N_goes_by_turns : List Str := ["thing", "both"]
theorem sc_goes_by_turns : FnScope N_goes_by_turns ["thing", "both"] (defScope S_goes_by_turns) := ⟨rfl, rfl, rfl, by decide +kernel, rfl, by decide +kernel, by decide +kernel⟩
abbrev S_is_updown : Stmt := topS 17
abbrev N_is_updown : List Str := ["thing"]
theorem sc_is_updown : FnScope N_is_updown ["thing"] (defScope S_is_updown) := ⟨rfl, rfl, rfl, by decide +kernel, rfl, by decide +kernel, by decide +kernel⟩
abbrev S_is_downup : Stmt := topS 18
abbrev N_is_downup : List Str := ["thing"]
theorem sc_is_downup : FnScope N_is_downup ["thing"] (defScope S_is_downup) := ⟨rfl, rfl, rfl, by decide +kernel, rfl, by decide +kernel, by decide +kernel⟩
abbrev S_turned_over : Stmt := topS 19
abbrev N_turned_over : List Str := ["order", "number"]
theorem sc_turned_over : FnScope N_turned_over ["order"] (defScope S_turned_over) := ⟨rfl, rfl, rfl, by decide +kernel, rfl, by decide +kernel, by decide +kernel⟩
abbrev S_backward : Stmt := topS 20
abbrev N_backward : List Str := ["order"]
theorem sc_backward : FnScope N_backward ["order"] (defScope S_backward) := ⟨rfl, rfl, rfl, by decide +kernel, rfl, by decide +kernel, by decide +kernel⟩
abbrev S_contrary : Stmt := topS 21
abbrev N_contrary : List Str := ["order", "number"]
theorem sc_contrary : FnScope N_contrary ["order"] (defScope S_contrary) := ⟨rfl, rfl, rfl, by decide +kernel, rfl, by decide +kernel, by decide +kernel⟩
abbrev S_order_of : Stmt := topS 22
abbrev N_order_of : List Str := ["row", "rising", "number"]
theorem sc_order_of : FnScope N_order_of ["row"] (defScope S_order_of) := ⟨rfl, rfl, rfl, by decide +kernel, rfl, by decide +kernel, by decide +kernel⟩
abbrev S_without : Stmt := topS 23
abbrev N_without : List Str := ["order", "number", "other"]
theorem sc_without : FnScope N_without ["order", "number"] (defScope S_without) := ⟨rfl, rfl, rfl, by decide +kernel, rfl, by decide +kernel, by decide +kernel⟩
abbrev S_law_cell_at : Stmt := topS 25
abbrev N_law_cell_at : List Str := ["_law_script", "_law_k"]
theorem sc_law_cell_at : FnScope N_law_cell_at ["_law_script", "_law_k"] (defScope S_law_cell_at) := ⟨rfl, rfl, rfl, by decide +kernel, rfl, by decide +kernel, by decide +kernel⟩
abbrev S_law_draw : Stmt := topS 26
abbrev N_law_draw : List Str := ["_law_cell", "_law_k", "_law_bound", "_law_left", "_law_j", "_law_stir"]
theorem sc_law_draw : FnScope N_law_draw ["_law_cell", "_law_k", "_law_bound"] (defScope S_law_draw) := ⟨rfl, rfl, rfl, by decide +kernel, rfl, by decide +kernel, by decide +kernel⟩
abbrev S_law_order : Stmt := topS 27
abbrev N_law_order : List Str := ["_law_cell", "_law_at", "_law_most", "_law_size", "_law_kind", "_law_found", "_law_one", "_law_spot"]
theorem sc_law_order : FnScope N_law_order ["_law_cell", "_law_at", "_law_most"] (defScope S_law_order) := ⟨rfl, rfl, rfl, by decide +kernel, rfl, by decide +kernel, by decide +kernel⟩
abbrev S_law_updown : Stmt := topS 28
abbrev N_law_updown : List Str := ["_law_cell", "_law_at", "_law_most", "_law_some", "_law_k"]
theorem sc_law_updown : FnScope N_law_updown ["_law_cell", "_law_at", "_law_most"] (defScope S_law_updown) := ⟨rfl, rfl, rfl, by decide +kernel, rfl, by decide +kernel, by decide +kernel⟩
abbrev S_law : Stmt := topS 29
abbrev N_law : List Str := ["_law_script", "_law_k", "_law_cell", "_law_most", "_law_some", "_law_over", "_law_word", "_law_left", "_law_one"]
theorem sc_law : FnScope N_law ["_law_script"] (defScope S_law) := ⟨rfl, rfl, rfl, by decide +kernel, rfl, by decide +kernel, by decide +kernel⟩
structure Txt (K : PySem.W.Frag) (mg : Str → Option Value) : Prop where
  d_is_whole : ∃ fd, FnT K "is_whole" S_is_whole fd
  g_is_whole : mg "is_whole" = some (.ref (He.ga K "is_whole"))
  d_need_number : ∃ fd, FnT K "need_number" S_need_number fd
  g_need_number : mg "need_number" = some (.ref (He.ga K "need_number"))
  d_is_whole_tuple : ∃ fd, FnT K "is_whole_tuple" S_is_whole_tuple fd
  g_is_whole_tuple : mg "is_whole_tuple" = some (.ref (He.ga K "is_whole_tuple"))
  d_is_order : ∃ fd, FnT K "is_order" S_is_order fd
  g_is_order : mg "is_order" = some (.ref (He.ga K "is_order"))
  d_is_row : ∃ fd, FnT K "is_row" S_is_row fd
  g_is_row : mg "is_row" = some (.ref (He.ga K "is_row"))
  d_need_order : ∃ fd, FnT K "need_order" S_need_order fd
  g_need_order : mg "need_order" = some (.ref (He.ga K "need_order"))
  d_need_row : ∃ fd, FnT K "need_row" S_need_row fd
  g_need_row : mg "need_row" = some (.ref (He.ga K "need_row"))
  d_turns : ∃ fd, FnT K "turns" S_turns fd
  g_turns : mg "turns" = some (.ref (He.ga K "turns"))
  d_goes_by_turns : ∃ fd, FnT K "goes_by_turns" S_goes_by_turns fd
  g_goes_by_turns : mg "goes_by_turns" = some (.ref (He.ga K "goes_by_turns"))
  d_is_updown : ∃ fd, FnT K "is_updown" S_is_updown fd
  g_is_updown : mg "is_updown" = some (.ref (He.ga K "is_updown"))
  d_is_downup : ∃ fd, FnT K "is_downup" S_is_downup fd
  g_is_downup : mg "is_downup" = some (.ref (He.ga K "is_downup"))
  d_turned_over : ∃ fd, FnT K "turned_over" S_turned_over fd
  g_turned_over : mg "turned_over" = some (.ref (He.ga K "turned_over"))
  d_backward : ∃ fd, FnT K "backward" S_backward fd
  g_backward : mg "backward" = some (.ref (He.ga K "backward"))
  d_contrary : ∃ fd, FnT K "contrary" S_contrary fd
  g_contrary : mg "contrary" = some (.ref (He.ga K "contrary"))
  d_order_of : ∃ fd, FnT K "order_of" S_order_of fd
  g_order_of : mg "order_of" = some (.ref (He.ga K "order_of"))
  d_without : ∃ fd, FnT K "without" S_without fd
  g_without : mg "without" = some (.ref (He.ga K "without"))
  d_law_cell_at : ∃ fd, FnT K "_law_cell_at" S_law_cell_at fd
  g_law_cell_at : mg "_law_cell_at" = some (.ref (He.ga K "_law_cell_at"))
  d_law_draw : ∃ fd, FnT K "_law_draw" S_law_draw fd
  g_law_draw : mg "_law_draw" = some (.ref (He.ga K "_law_draw"))
  d_law_order : ∃ fd, FnT K "_law_order" S_law_order fd
  g_law_order : mg "_law_order" = some (.ref (He.ga K "_law_order"))
  d_law_updown : ∃ fd, FnT K "_law_updown" S_law_updown fd
  g_law_updown : mg "_law_updown" = some (.ref (He.ga K "_law_updown"))
  d_law : ∃ fd, FnT K "law" S_law fd
  g_law : mg "law" = some (.ref (He.ga K "law"))
  n_isinstance : mg "isinstance" = none
  n_int : mg "int" = none
  n_bool : mg "bool" = none
  n_len : mg "len" = none
  n_range : mg "range" = none
  n_list : mg "list" = none
  n_tuple : mg "tuple" = none
  n_all : mg "all" = none
  n_sorted : mg "sorted" = none
  n_set : mg "set" = none
  n_zip : mg "zip" = none
  n_max : mg "max" = none
  n_min : mg "min" = none
  n_ValueError : mg "ValueError" = none
  c_MOST : ∃ t, mg "MOST" = some (.int 40 t)
  g_TurnError : mg "TurnError" = some (.ref (He.ga K "TurnError"))
  g_NoOrder : mg "NoOrder" = some (.ref (He.ga K "NoOrder"))
  g_NoNumber : mg "NoNumber" = some (.ref (He.ga K "NoNumber"))
  g_NoRow : mg "NoRow" = some (.ref (He.ga K "NoRow"))
  x_NoOrder : PySem.W.excIn K (He.ga K "NoOrder") He.veBase "ValueError.__new__" = true
  k_NoOrder : PySem.W.keepIn K (.ref (He.ga K "NoOrder")) = true
  b_NoOrder : PySem.W.subIn K (.ref (He.ga K "NoOrder")) (.type "BaseException") = some true
  t_NoOrder : PySem.W.typeIn K (.ref (He.ga K "NoOrder")) = some (.type "type")
  x_NoNumber : PySem.W.excIn K (He.ga K "NoNumber") He.veBase "ValueError.__new__" = true
  k_NoNumber : PySem.W.keepIn K (.ref (He.ga K "NoNumber")) = true
  b_NoNumber : PySem.W.subIn K (.ref (He.ga K "NoNumber")) (.type "BaseException") = some true
  t_NoNumber : PySem.W.typeIn K (.ref (He.ga K "NoNumber")) = some (.type "type")
  x_NoRow : PySem.W.excIn K (He.ga K "NoRow") He.veBase "ValueError.__new__" = true
  k_NoRow : PySem.W.keepIn K (.ref (He.ga K "NoRow")) = true
  b_NoRow : PySem.W.subIn K (.ref (He.ga K "NoRow")) (.type "BaseException") = some true
  t_NoRow : PySem.W.typeIn K (.ref (He.ga K "NoRow")) = some (.type "type")
section
variable {P : Program} {w : World} {K : PySem.W.Frag} {mg : Str → Option Value} {base : Heap}
structure TBs (K : PySem.W.Frag) (mg : Str → Option Value) (base : Heap) : Prop where
  is_whole_tuple : LamX.TabB base mg (He.cT K ("is_whole_tuple", none)).1 (He.cT K ("is_whole_tuple", none)).2
  turns : LamX.TabB base mg (He.cT K ("turns", none)).1 (He.cT K ("turns", none)).2
  turned_over : LamX.TabB base mg (He.cT K ("turned_over", none)).1 (He.cT K ("turned_over", none)).2
  contrary : LamX.TabB base mg (He.cT K ("contrary", none)).1 (He.cT K ("contrary", none)).2
  order_of : LamX.TabB base mg (He.cT K ("order_of", none)).1 (He.cT K ("order_of", none)).2
  without : LamX.TabB base mg (He.cT K ("without", none)).1 (He.cT K ("without", none)).2
def Ps (K : PySem.W.Frag) : List Addr := [(He.cT K ("is_whole_tuple", none)).2, (He.cT K ("turns", none)).2, (He.cT K ("turned_over", none)).2, (He.cT K ("contrary", none)).2, (He.cT K ("order_of", none)).2, (He.cT K ("without", none)).2]
theorem mem_is_whole_tuple (K : PySem.W.Frag) : (He.cT K ("is_whole_tuple", none)).2 ∈ Ps K := by unfold Ps; simp
theorem mem_turns (K : PySem.W.Frag) : (He.cT K ("turns", none)).2 ∈ Ps K := by unfold Ps; simp
theorem mem_turned_over (K : PySem.W.Frag) : (He.cT K ("turned_over", none)).2 ∈ Ps K := by unfold Ps; simp
theorem mem_contrary (K : PySem.W.Frag) : (He.cT K ("contrary", none)).2 ∈ Ps K := by unfold Ps; simp
theorem mem_order_of (K : PySem.W.Frag) : (He.cT K ("order_of", none)).2 ∈ Ps K := by unfold Ps; simp
theorem mem_without (K : PySem.W.Frag) : (He.cT K ("without", none)).2 ∈ Ps K := by unfold Ps; simp
def rng (n : Nat) : List Int := (List.range n).map fun (j : Nat) => 1 + (j : Int)
/-- an order: the numbers from 1 to how many they are, each once -/
structure Ord (l : List Int) : Prop where
  pos : 1 ≤ l.length
  few : l.length ≤ 40
  perm : l.Perm (rng l.length)
/-- a tuple of ints without attributes -/
def Zt (H : Hp) (t : Addr) (l : List Int) : Prop := ∃ ob : Obj, ob.dict = none ∧ H t = some (.frz ob (.tup (l.map V.int)))
theorem tyx_sqt {K : PySem.W.Frag} {H : Hp} {a : Addr} {xs : List V} (h : SqT K H a xs) : TyX K H (.ref a) (.type "tuple") := by
  rcases h with (h | ⟨o, h⟩) | ⟨o, its, n, h, c, _⟩
  · exact .base (.tup h)
  · exact .fTuple h
  · exact .kTuple h c
theorem kit_tt {K : PySem.W.Frag} : PySem.W.kitOne K (.type "tuple") (.type "tuple") = some true := kit_ty (by decide +kernel)
theorem small_n {n : Nat} (h : n ≤ 1000) : n < sizeLine := Nat.lt_of_le_of_lt h (by decide)
theorem get_ints {ns : List Int} {i : Nat} {x : V} (h : (ns.map V.int)[i]? = some x) : ∃ z, ns[i]? = some z ∧ x = .int z := by
  rw [List.getElem?_map] at h
  cases e : ns[i]? with
  | none => rw [e] at h; cases h
  | some z => rw [e] at h; exact ⟨z, rfl, (Option.some.inj h).symm⟩

theorem rng_len (n : Nat) : (rng n).length = n := by unfold rng; rw [List.length_map, List.length_range]
theorem rng_lt (n : Nat) : (rng n).Pairwise (· < ·) := by
  unfold rng
  rw [List.pairwise_map]
  refine List.Pairwise.imp ?_ List.pairwise_lt_range
  intro a b h
  show 1 + (a : Int) < 1 + (b : Int)
  omega
theorem rng_le (n : Nat) : (rng n).Pairwise (· ≤ ·) := (rng_lt n).imp fun h => by omega
theorem rng_nodup (n : Nat) : (rng n).Nodup := (rng_lt n).imp fun h e => by omega
theorem mem_rng {n : Nat} {x : Int} : x ∈ rng n ↔ 1 ≤ x ∧ x ≤ n := by
  unfold rng
  rw [List.mem_map]
  constructor
  · rintro ⟨j, hj, rfl⟩
    have := List.mem_range.mp hj
    omega
  · rintro ⟨h1, h2⟩
    exact ⟨(x - 1).toNat, List.mem_range.mpr (by omega), by omega⟩
theorem rng_at {n i : Nat} (h : i < n) : (rng n)[i]? = some (1 + (i : Int)) := by
  unfold rng
  rw [List.getElem?_map, List.getElem?_range h]; rfl
theorem Ord.nodup {l : List Int} (o : Ord l) : l.Nodup := (o.perm.symm).nodup (rng_nodup _)
theorem Ord.mem {l : List Int} (o : Ord l) {x : Int} : x ∈ l ↔ 1 ≤ x ∧ x ≤ l.length := (o.perm.mem_iff).trans mem_rng
theorem sorted_eq {l ms : List Int} (o : Ord l) (p : ms.Perm l) (w : ms.Pairwise (· ≤ ·)) : ms = rng l.length :=
  (p.trans o.perm).eq_of_pairwise (fun a b _ _ h1 h2 => by omega) w (rng_le _)
theorem rg_eq (n : Nat) : rgV 1 ((n : Int) + 1) = (rng n).map V.int := by
  unfold rgV rng
  rw [List.map_map, show ((n : Int) + 1 - 1).toNat = n by omega]; rfl

theorem ok_is_whole (T : Txt K mg) : DefOk P w K mg base CX0 1 "is_whole" ["thing"] (spWhole K) := by
  refine def_of T.d_is_whole T.g_is_whole (fun _ _ _ _ _ _ us hl => match us, hl with | [_], _ => rfl) fun fd F => ?_
  refine F.ok sc_is_whole (fun vs H Q E h => ?_) (fun cdv A outer s H vs Q E hr h => ?_)
  · obtain ⟨x, b, rfl, _⟩ := h; rfl
  · obtain ⟨x, b, rfl, hT, q⟩ := h
    obtain ⟨ty, hty, hm, hb⟩ := hT.ex
    refine ⟨_, PSs.nox (pss_one (ps_ret (pe_and (pe_callB (isiK K) (by rfl) T.n_isinstance (by decide +kernel) (pa_cons (pv 0) (pa_cons (pe_bltn (v := .ty "int") (u := .type "int") (by rfl) T.n_int (by decide +kernel) rfl) pa_nil))) (pe_one (pe_not (pe_callB (isiK K) (by rfl) T.n_isinstance (by decide +kernel) (pa_cons (pv 0) (pa_cons (pe_bltn (v := .ty "bool") (u := .type "bool") (by rfl) T.n_bool (by decide +kernel) rfl) pa_nil)))))))), ?_⟩
    refine ⟨_, rfl, _, _, _, _, _, rfl, .ty "int", hty, kit_ty (kit_int ty hm), _, rfl, ite2 (fun c => ?_) (fun c => ?_)⟩
    · refine ⟨_, rfl, _, _, _, _, _, rfl, .ty "bool", hty, kit_ty (kit_bool ty hm), _, rfl, ?_⟩
      have e : (!(ty == "bool")) = b := by
        rw [← hb]; exact kit_whole ty hm c
      rw [e]; exact q
    · have e : (ty == "int" || ty == "bool") = false := by simpa using c
      have e2 : b = false := by rw [← hb]; rw [Bool.or_eq_false_iff] at e; exact e.1
      rw [e2] at q; exact q

theorem ok_need_number (T : Txt K mg) : DefOk P w K mg base (L2.CX P w) 2 "need_number" ["thing", "least", "most"] (spNeed K (He.ga K "NoNumber")) := by
  have D_is_whole : DefOk P w K mg base CX0 1 "is_whole" ["thing"] (spWhole K) := ok_is_whole T
  refine def_of T.d_need_number T.g_need_number (fun _ _ _ _ _ _ us hl => match us, hl with | [_, _, _], _ => rfl) fun fd F => ?_
  refine F.ok sc_need_number (fun vs H Q E h => ?_) (fun cdv A outer s H vs Q E hr h => ?_)
  · obtain ⟨x, a, b, z, rfl, _⟩ := h; rfl
  · obtain ⟨x, a, b, z, rfl, ha, hb, hT, kY, kN⟩ := h
    refine ⟨_, (pss_cons (ps_if (pt_not (pt_val (pe_callD D_is_whole hr (by rfl) pass0 (pa_cons (pv 0) pa_nil)))) (pss_one (ps_raise rfl (takes_of rfl rfl rfl rfl) (pmk_own PySem.F.excBase_ValueError T.x_NoNumber T.g_NoNumber T.k_NoNumber (raises_own T.b_NoNumber T.t_NoNumber) (by exact rfl)))) pss_nil)
 (pss_one (ps_if (PW.pt (pw_or (pt_cmpR op_lt (pv 0) (pv 1) (nomark _)) (pw_or1 (pt_cmpR op_gt (pv 0) (pv 2) (nomark _))))) (pss_one (ps_raise rfl (takes_of rfl rfl rfl rfl) (SkE.pmk_own1 PySem.F.excBase_ValueError T.x_NoNumber T.g_NoNumber T.k_NoNumber (raises_own T.b_NoNumber T.t_NoNumber) (by exact rfl) (pe_joined (PJ.cons pe_str (PJ.cons (pe_fmt (pv 1)) (PJ.cons pe_str (PJ.cons (pe_fmt (pv 2)) PJ.nil)))))))) pss_nil))), ?_⟩
    refine ⟨_, rfl, x, z, rfl, hT, z, rfl, ?_⟩
    cases z with
    | false =>
      refine iteT ?_
      refine kN fun ⟨i, e, _⟩ => hT.non rfl i e
    | true =>
      refine iteF ?_
      obtain ⟨i, rfl⟩ := hT.int rfl
      refine ⟨_, rfl, _, rfl, _, _, rfl, rfl, _, rfl, ?_⟩
      have bad : ¬ NumOk (.int i) a b → _ := kN
      refine ite2 (fun c => ?_) (fun c => ?_)
      · refine iteT ?_
        refine ⟨_, rfl, by decide +kernel, _, rfl, .inr ⟨a, rfl, ha.1, _, rfl, ha.2.1, _, rfl, ha.2.2, _, rfl, .inr ⟨b, rfl, hb.1, _, rfl, hb.2, bad fun ⟨j, e, h1, h2⟩ => ?_⟩⟩⟩
        cases e
        have := of_decide_eq_true c
        omega
      · refine ⟨_, rfl, _, rfl, _, _, rfl, rfl, _, rfl, ?_⟩
        refine ite2 (fun d => ?_) (fun d => ?_)
        · refine ⟨_, rfl, by decide +kernel, _, rfl, .inr ⟨a, rfl, ha.1, _, rfl, ha.2.1, _, rfl, ha.2.2, _, rfl, .inr ⟨b, rfl, hb.1, _, rfl, hb.2, bad fun ⟨j, e, h1, h2⟩ => ?_⟩⟩⟩
          cases e
          have := of_decide_eq_true d
          omega
        · exact kY ⟨i, rfl, by
            have := of_decide_eq_false (Bool.eq_false_iff.mpr c)
            omega, by
            have := of_decide_eq_false (Bool.eq_false_iff.mpr d)
            omega⟩

def spIWT (K : PySem.W.Frag) : Sp := fun vs H Q _ => ∃ (a : Addr) (l : List Int), vs = [.ref a] ∧ SqT K H a (l.map V.int) ∧ 1 ≤ l.length ∧ l.length ≤ 40 ∧ TG (Ps K) H ∧ ∀ H', Go (Ps K) H H' → Q (.bl true) H'
theorem all_id : ∀ n : Nat, (List.replicate n true).all id = true
  | 0 => rfl
  | n + 1 => all_id n
theorem ok_is_whole_tuple (T : Txt K mg) (B : TBs K mg base) : DefOk P w K mg base CX0 2 "is_whole_tuple" ["thing"] (spIWT K) := by
  have TB0 := B.is_whole_tuple
  refine def_of T.d_is_whole_tuple T.g_is_whole_tuple (fun _ _ _ _ _ _ us hl => match us, hl with | [_], _ => rfl) fun fd F => ?_
  obtain ⟨oc, od, dV, kV, doc, pm, an, cdv, ct, osl, rfl, lk, hcd, _, _⟩ := F.ex
  obtain ⟨c0, rfl⟩ := He.codeIn_ref hcd
  have ec : He.codeOf K ("is_whole_tuple", none) = c0 := He.codeOf_eq lk rfl
  have eC : (He.cT K ("is_whole_tuple", none)).1 = c0 := ec
  rw [eC] at TB0
  have TB := tab_of TB0
  generalize ePt : (He.cT K ("is_whole_tuple", none)).2 = Pt at *
  have hPt : Pt ∈ Ps K := ePt ▸ mem_is_whole_tuple K
  refine fn_of lk hcd sc_is_whole_tuple (fun vs H Q E h => ?_) (fun A outer s H vs Q E hr h => ?_)
  · obtain ⟨a, l, rfl, _⟩ := h; rfl
  · obtain ⟨a, l, rfl, hS, h1, h2, tg, q⟩ := h
    have hcode : (envOfC "is_whole_tuple" (defScope S_is_whole_tuple) s.heap.objs.size (He.ga K "is_whole_tuple") (.ref c0)).code = .ref c0 := rfl
    obtain ⟨fdW, FW⟩ := T.d_is_whole
    have hbW := fun (kV doc pm : Value) (an : Option Addr) (cdv ct : Value) (us : List Value) (hl : us.length = 1) => ((fun _ _ _ _ _ _ us hl => match us, hl with | [_], _ => rfl) : ∀ (kV doc pm : Value) (an : Option Addr) (cdv ct : Value) (us : List Value), us.length = 1 → bindArgs (PySem.W.fnOf "is_whole" "is_whole" (defArgs S_is_whole) (defBody S_is_whole) (defScope S_is_whole) .none kV doc pm an cdv ct) ⟨us, []⟩ = pure ((["thing"] : List Str).zip us)) kV doc pm an cdv ct us hl
    refine ⟨_, PSs.nox (pss_cons (ps_if (pt_not (pt_val (pe_callB (isiK K) (by rfl) T.n_isinstance (by decide +kernel) (pa_cons (pv 0) (pa_cons (pe_bltn (v := .ty "tuple") (u := .type "tuple") (by rfl) T.n_tuple (by decide +kernel) rfl) pa_nil))))) (pss_one (ps_ret pe_bl)) pss_nil)
 (pss_cons (ps_if (PW.pt (pw_or (pt_cmpR op_lt (pe_callB (lenK K) (by rfl) T.n_len boot_len (pa_cons (pv 0) pa_nil)) pe_int (nomark _)) (pw_or1 (pt_cmpR op_gt (pe_callB (lenK K) (by rfl) T.n_len boot_len (pa_cons (pv 0) pa_nil)) (pe_glob (v := .int 40) rfl T.c_MOST.choose_spec ⟨_, rfl⟩) (nomark _))))) (pss_one (ps_ret pe_bl)) pss_nil)
 (pss_one (ps_ret (pe_allW hr (by rfl) T.n_all TB hcode (genS_by (show genSB (defScope S_is_whole_tuple) _ "number" = true by decide +kernel)) (pv 0) (fun _ => rfl) FW sc_is_whole rfl hbW (by rfl) (by rfl) (by rfl) (by rfl) T.n_isinstance T.n_int T.n_bool T.g_is_whole (by decide +kernel)))))), ?_⟩
    refine ⟨_, rfl, _, _, _, _, _, rfl, .ty "tuple", tyx_sqt hS, kit_tt, _, rfl, iteF ?_⟩
    have hl : (l.map V.int).length = l.length := List.length_map ..
    refine ⟨_, rfl, a, _, rfl, .inr hS, _, _, rfl, rfl, _, rfl, ?_⟩
    rw [hl]
    refine ite2 (fun c => absurd (of_decide_eq_true c) (by omega)) (fun c => ?_)
    refine ⟨_, rfl, a, _, rfl, .inr hS, _, _, rfl, rfl, _, rfl, ?_⟩
    rw [hl]
    refine ite2 (fun c => absurd (of_decide_eq_true c) (by omega)) (fun c => ?_)
    refine ⟨_, rfl, tg _ hPt, a, l.map V.int, List.replicate l.length true, rfl, hS, by rw [List.length_replicate, hl], fun i y hy => ?_, fun H2 ht => ?_⟩
    · obtain ⟨z, hz, rfl⟩ := get_ints hy
      have hlt := (List.getElem?_eq_some_iff.mp hz).1
      exact ⟨true, by rw [List.getElem?_replicate, if_pos hlt], .int _⟩
    · rw [all_id]
      exact q H2 ((Go.refl tg).tabbed (tg _ hPt) ht)

def spOrdV (K : PySem.W.Frag) (r : V) : Sp := fun vs H Q _ => ∃ (a : Addr) (l : List Int), vs = [.ref a] ∧ SqT K H a (l.map V.int) ∧ Ord l ∧ TG (Ps K) H ∧ ∀ H', Go (Ps K) H H' → Q r H'
theorem ok_is_order (T : Txt K mg) (B : TBs K mg base) : DefOk P w K mg base CX0 3 "is_order" ["thing"] (spOrdV K (.bl true)) := by
  have D_is_whole_tuple : DefOk P w K mg base CX0 2 "is_whole_tuple" ["thing"] (spIWT K) := ok_is_whole_tuple T B
  refine def_of T.d_is_order T.g_is_order (fun _ _ _ _ _ _ us hl => match us, hl with | [_], _ => rfl) fun fd F => ?_
  refine F.ok sc_is_order (fun vs H Q E h => ?_) (fun cdv A outer s H vs Q E hr h => ?_)
  · obtain ⟨a, l, rfl, _⟩ := h; rfl
  · obtain ⟨a, l, rfl, hS, o, tg, q⟩ := h
    refine ⟨_, PSs.nox (pss_cons (ps_if (pt_not (pt_val (pe_callD D_is_whole_tuple hr (by rfl) pass0 (pa_cons (pv 0) pa_nil)))) (pss_one (ps_ret pe_bl)) pss_nil)
 (pss_one (ps_ret (pe_cmpR (eqDK K hr.units) (pe_callB (sortedTupK K) (by rfl) T.n_sorted (by decide +kernel) (pa_cons (pv 0) pa_nil)) (pe_listRg rfl (by rfl) T.n_list (prg_2 (by rfl) T.n_range pe_int (pe_op op_add (pe_callB (lenK K) (by rfl) T.n_len boot_len (pa_cons (pv 0) pa_nil)) pe_int))) (nomark _))))), ?_⟩
    refine ⟨_, rfl, a, l, rfl, hS, o.pos, o.few, tg, fun H1 g1 => ⟨_, rfl, iteF ?_⟩⟩
    have hS1 := ext_sqt g1.ext hS
    refine ⟨_, rfl, a, l, rfl, hS1, fun ms p pm pw np => ?_⟩
    have sp := same_new (o := .lst (ms.map V.int)) np
    have hS2 := ext_sqt (Same.ext sp) hS1
    have hl : (l.map V.int).length = l.length := List.length_map ..
    refine ⟨_, rfl, a, _, rfl, .inr hS2, _, _, rfl, rfl, _, _, rfl, rfl, ?_⟩
    rw [hl]
    refine ⟨RgOk.of_le (by decide) (by have := o.few; omega) (by decide) (by omega), fun r nr => ?_⟩
    have sr := same_new (o := .lst (rgV 1 ((l.length : Int) + 1))) nr
    rw [rg_eq] at sr ⊢
    have em := sorted_eq o pm pw
    refine eq_same (d := intsD ms) (dp_list (SqL.of (sr _ _ upd_same))) (dp_list (SqL.of (by rw [upd_same, em]))) (shaped_ints _) (eqv_ints _) ?_
    exact q _ ((g1.same sp).same sr)

theorem ok_need_order (T : Txt K mg) (B : TBs K mg base) : DefOk P w K mg base (L2.CX P w) 4 "need_order" ["thing"] (spOrdV K .non) := by
  have D_is_order : DefOk P w K mg base CX0 3 "is_order" ["thing"] (spOrdV K (.bl true)) := ok_is_order T B
  refine def_of T.d_need_order T.g_need_order (fun _ _ _ _ _ _ us hl => match us, hl with | [_], _ => rfl) fun fd F => ?_
  refine F.ok sc_need_order (fun vs H Q E h => ?_) (fun cdv A outer s H vs Q E hr h => ?_)
  · obtain ⟨a, l, rfl, _⟩ := h; rfl
  · obtain ⟨a, l, rfl, hS, o, tg, q⟩ := h
    refine ⟨_, (pss_one (ps_if (pt_not (pt_val (pe_callD D_is_order hr (by rfl) pass0 (pa_cons (pv 0) pa_nil)))) (pss_one (ps_raise rfl (takes_of rfl rfl rfl rfl) (pmk_own PySem.F.excBase_ValueError T.x_NoOrder T.g_NoOrder T.k_NoOrder (raises_own T.b_NoOrder T.t_NoOrder) (by exact rfl)))) pss_nil)), ?_⟩
    exact ⟨_, rfl, a, l, rfl, hS, o, tg, fun H1 g1 => ⟨_, rfl, iteF (q _ g1)⟩⟩

theorem Zt.sq {K : PySem.W.Frag} {H : Hp} {t : Addr} {l : List Int} (h : Zt H t l) : SqT K H t (l.map V.int) := by
  obtain ⟨ob, _, e⟩ := h
  exact .inl (.inr ⟨ob, e⟩)
def overL (l : List Int) : List Int := l.map fun x => (l.length : Int) + 1 - x
def spTupZ (K : PySem.W.Frag) (f : List Int → List Int) : Sp := fun vs H Q _ => ∃ (a : Addr) (l : List Int), vs = [.ref a] ∧ SqT K H a (l.map V.int) ∧ Ord l ∧ TG (Ps K) H ∧ ∀ H' p, Go (Ps K) H H' → Zt H' p (f l) → Q (.ref p) H'
theorem range_get (l : List Int) (f : Int → Int) : (List.range l.length).map (fun i => V.int (f (l.getD i 0))) = (l.map f).map V.int := by
  refine List.ext_getElem? fun i => ?_
  rw [List.getElem?_map, List.getElem?_map, List.getElem?_map]
  by_cases h : i < l.length
  · rw [List.getElem?_range h, List.getElem?_eq_getElem h]
    show some (V.int (f (l.getD i 0))) = some (V.int (f l[i]))
    rw [List.getD_eq_getElem?_getD, List.getElem?_eq_getElem h]; rfl
  · rw [List.getElem?_eq_none (by rw [List.length_range]; omega), List.getElem?_eq_none (by omega)]; rfl
theorem ok_turned_over (T : Txt K mg) (B : TBs K mg base) : DefOk P w K mg base (L2.CX P w) 5 "turned_over" ["order"] (spTupZ K overL) := by
  have D_need_order : DefOk P w K mg base (L2.CX P w) 4 "need_order" ["thing"] (spOrdV K .non) := ok_need_order T B
  have TB0 := B.turned_over
  refine def_of T.d_turned_over T.g_turned_over (fun _ _ _ _ _ _ us hl => match us, hl with | [_], _ => rfl) fun fd F => ?_
  obtain ⟨oc, od, dV, kV, doc, pm, an, cdv, ct, osl, rfl, lk, hcd, _, _⟩ := F.ex
  obtain ⟨c0, rfl⟩ := He.codeIn_ref hcd
  have ec : He.codeOf K ("turned_over", none) = c0 := He.codeOf_eq lk rfl
  have eC : (He.cT K ("turned_over", none)).1 = c0 := ec
  rw [eC] at TB0
  have TB := tab_of TB0
  generalize ePt : (He.cT K ("turned_over", none)).2 = Pt at *
  have hPt : Pt ∈ Ps K := ePt ▸ mem_turned_over K
  refine fn_of lk hcd sc_turned_over (fun vs H Q E h => ?_) (fun A outer s H vs Q E hr h => ?_)
  · obtain ⟨a, l, rfl, _⟩ := h; rfl
  · obtain ⟨a, l, rfl, hS, o, tg, q⟩ := h
    have hcode : (envOfC "turned_over" (defScope S_turned_over) s.heap.objs.size (He.ga K "turned_over") (.ref c0)).code = .ref c0 := rfl
    refine ⟨_, (pss_cons (ps_expr (pe_callD (E := E) D_need_order hr (by rfl) (passOut (takes_of rfl rfl rfl rfl)) (pa_cons (pv 0) pa_nil)))
 (pss_one (ps_ret (pe_tupG hr (by rfl) T.n_tuple TB hcode (genS_by (show genSB (defScope S_turned_over) _ "number" = true by decide +kernel)) (pv 0) (ple_sub (ple_add (ple_len (ple_free 0 (genS_by (show genSB (defScope S_turned_over) _ "number" = true by decide +kernel)) (by rfl) (by rfl) (by rfl)) (by rfl) (by rfl) T.n_len) ple_int) (ple_item (by rfl) (by rfl))) (fun _ => rfl))))), ?_⟩
    refine ⟨_, rfl, a, l, rfl, hS, o, tg, fun H1 g1 => ?_⟩
    have hS1 := ext_sqt g1.ext hS
    have hl : (l.map V.int).length = l.length := List.length_map ..
    refine ⟨_, rfl, g1.tab _ hPt, a, l.map V.int, fun i => .int ((l.length : Int) + 1 - l.getD i 0), rfl, hS1, fun i w hw => ?_, fun H2 p ob d ht np => ?_⟩
    · obtain ⟨z, hz, rfl⟩ := get_ints hw
      have ez : l.getD i 0 = z := by rw [List.getD_eq_getElem?_getD, hz]; rfl
      refine ⟨_, _, ⟨_, _, ⟨a, _, rfl, hS1, rfl⟩, rfl, rfl⟩, rfl, ?_⟩
      show V.int ((l.length : Int) + 1 - l.getD i 0) = V.int (((l.map V.int).length : Int) + 1 - z)
      rw [ez, hl]
    · have g2 := g1.tabbed (g1.tab _ hPt) ht
      rw [hl, range_get]
      exact q _ p (g2.same (same_new np)) ⟨ob, d, upd_same⟩

def spTupB (K : PySem.W.Frag) (f : List Int → List Int) : Sp := fun vs H Q _ => ∃ (a : Addr) (l : List Int), vs = [.ref a] ∧ SqT K H a (l.map V.int) ∧ Ord l ∧ TG (Ps K) H ∧ ∀ H' p, Go (Ps K) H H' → SqT K H' p ((f l).map V.int) → Q (.ref p) H'
theorem ok_backward (T : Txt K mg) (B : TBs K mg base) : DefOk P w K mg base (L2.CX P w) 5 "backward" ["order"] (spTupB K List.reverse) := by
  have D_need_order : DefOk P w K mg base (L2.CX P w) 4 "need_order" ["thing"] (spOrdV K .non) := ok_need_order T B
  refine def_of T.d_backward T.g_backward (fun _ _ _ _ _ _ us hl => match us, hl with | [_], _ => rfl) fun fd F => ?_
  refine F.ok sc_backward (fun vs H Q E h => ?_) (fun cdv A outer s H vs Q E hr h => ?_)
  · obtain ⟨a, l, rfl, _⟩ := h; rfl
  · obtain ⟨a, l, rfl, hS, o, tg, q⟩ := h
    refine ⟨_, (pss_cons (ps_expr (pe_callD (E := E) D_need_order hr (by rfl) (passOut (takes_of rfl rfl rfl rfl)) (pa_cons (pv 0) pa_nil)))
 (pss_one (ps_ret (revTK K (pv 0))))), ?_⟩
    refine ⟨_, rfl, a, l, rfl, hS, o, tg, fun H1 g1 => ?_⟩
    have hS1 := ext_sqt g1.ext hS
    refine ⟨_, rfl, a, _, rfl, hS1, fun p np => ?_⟩
    exact q _ p (g1.same (same_new np)) (SqT.of (by rw [upd_same, List.map_reverse]))

def idxN (x : Int) : List Int → Nat
  | [] => 0
  | y :: ys => if y = x then 0 else idxN x ys + 1
theorem idxN_at {x : Int} : ∀ {s : List Int}, x ∈ s → s[idxN x s]? = some x ∧ ∀ m, m < idxN x s → s[m]? ≠ some x
  | [], h => by cases h
  | y :: ys, h => by
    unfold idxN
    by_cases e : y = x
    · rw [if_pos e]
      exact ⟨by rw [e]; rfl, fun m hm => absurd hm (Nat.not_lt_zero _)⟩
    · rw [if_neg e]
      have h' : x ∈ ys := by
        cases List.mem_cons.mp h with
        | inl z => exact absurd z.symm e
        | inr z => exact z
      obtain ⟨i1, i2⟩ := idxN_at h'
      refine ⟨by rw [List.getElem?_cons_succ]; exact i1, fun m hm => ?_⟩
      cases m with
      | zero => rw [List.getElem?_cons_zero]; exact fun z => e (Option.some.inj z)
      | succ m => rw [List.getElem?_cons_succ]; exact i2 m (by omega)
def conL (l : List Int) : List Int := (rng l.length).map fun x => ((idxN x l : Nat) : Int) + 1
def spCon (K : PySem.W.Frag) : Sp := fun vs H Q _ => ∃ (a : Addr) (l : List Int), vs = [.ref a] ∧ Zt H a l ∧ Ord l ∧ TG (Ps K) H ∧ ∀ H' p, Go (Ps K) H H' → Zt H' p (conL l) → Q (.ref p) H'
theorem Zt.ext {H H' : Hp} {t : Addr} {l : List Int} (h : Zt H t l) (e : LamX.ExtN H H') : Zt H' t l := by
  obtain ⟨ob, d, z⟩ := h
  exact ⟨ob, d, e _ _ z fun _ q => by cases q⟩
theorem range_rng (n : Nat) (f : Int → Int) : (List.range n).map (fun (i : Nat) => V.int (f (1 + (i : Int)))) = ((rng n).map f).map V.int := by
  unfold rng
  rw [List.map_map, List.map_map]; rfl
theorem ok_contrary (T : Txt K mg) (B : TBs K mg base) : DefOk P w K mg base (L2.CX P w) 5 "contrary" ["order"] (spCon K) := by
  have D_need_order : DefOk P w K mg base (L2.CX P w) 4 "need_order" ["thing"] (spOrdV K .non) := ok_need_order T B
  have TB0 := B.contrary
  refine def_of T.d_contrary T.g_contrary (fun _ _ _ _ _ _ us hl => match us, hl with | [_], _ => rfl) fun fd F => ?_
  obtain ⟨oc, od, dV, kV, doc, pm, an, cdv, ct, osl, rfl, lk, hcd, _, _⟩ := F.ex
  obtain ⟨c0, rfl⟩ := He.codeIn_ref hcd
  have ec : He.codeOf K ("contrary", none) = c0 := He.codeOf_eq lk rfl
  have eC : (He.cT K ("contrary", none)).1 = c0 := ec
  rw [eC] at TB0
  have TB := tab_of TB0
  generalize ePt : (He.cT K ("contrary", none)).2 = Pt at *
  have hPt : Pt ∈ Ps K := ePt ▸ mem_contrary K
  refine fn_of lk hcd sc_contrary (fun vs H Q E h => ?_) (fun A outer s H vs Q E hr h => ?_)
  · obtain ⟨a, l, rfl, _⟩ := h; rfl
  · obtain ⟨a, l, rfl, hZ, o, tg, q⟩ := h
    have hcode : (envOfC "contrary" (defScope S_contrary) s.heap.objs.size (He.ga K "contrary") (.ref c0)).code = .ref c0 := rfl
    refine ⟨_, (pss_cons (ps_expr (pe_callD (E := E) D_need_order hr (by rfl) (passOut (takes_of rfl rfl rfl rfl)) (pa_cons (pv 0) pa_nil)))
 (pss_one (ps_ret (pe_tupR hr (by rfl) T.n_tuple (by rfl) T.n_range TB hcode (genS_by (show genSB (defScope S_contrary) _ "number" = true by decide +kernel)) (pa_cons pe_int (pa_cons (pe_op op_add (pe_callB (lenK K) (by rfl) T.n_len boot_len (pa_cons (pv 0) pa_nil)) pe_int) pa_nil)) (ple_add (ple_tix (ple_free 0 (genS_by (show genSB (defScope S_contrary) _ "number" = true by decide +kernel)) (by rfl) (by rfl) (by rfl)) (ple_item (by rfl) (by rfl))) ple_int) (fun _ => rfl))))), ?_⟩
    refine ⟨_, rfl, a, l, rfl, hZ.sq, o, tg, fun H1 g1 => ?_⟩
    have hZ1 := hZ.ext g1.ext
    have hl : (l.map V.int).length = l.length := List.length_map ..
    have hfew := o.few
    refine ⟨_, rfl, a, _, rfl, .inr hZ1.sq, _, _, rfl, rfl, 1, (l.length : Int) + 1, by rw [hl], ⟨by decide, by decide, by omega, by omega⟩, ?_, g1.tab _ hPt, fun i => .int (((idxN (1 + (i : Int)) l : Nat) : Int) + 1), fun i hi => ?_, fun H2 p ob d ht np => ?_⟩
    · have : ((l.length : Int) + 1 - 1).toNat = l.length := by omega
      rw [this]; exact sz' (by omega)
    · obtain ⟨ob, d, e⟩ := hZ1
      obtain ⟨i1, i2⟩ := idxN_at (x := 1 + (i : Int)) (s := l) (o.mem.mpr ⟨by omega, by omega⟩)
      exact ⟨_, _, ⟨a, ob, l, _, _, rfl, d, e, rfl, i1, i2, rfl⟩, rfl, rfl⟩
    · have g2 := g1.tabbed (g1.tab _ hPt) ht
      have en : ((l.length : Int) + 1 - 1).toNat = l.length := by omega
      rw [en, range_rng l.length fun x => ((idxN x l : Nat) : Int) + 1]
      exact q _ p (g2.same (same_new np)) ⟨ob, d, upd_same⟩

def spRowV (K : PySem.W.Frag) (r : V) : Sp := fun vs H Q _ => ∃ (a : Addr) (l : List Int), vs = [.ref a] ∧ SqT K H a (l.map V.int) ∧ 1 ≤ l.length ∧ l.length ≤ 40 ∧ l.Nodup ∧ TG (Ps K) H ∧ ∀ H', Go (Ps K) H H' → Q r H'
theorem ok_is_row (T : Txt K mg) (B : TBs K mg base) : DefOk P w K mg base CX0 3 "is_row" ["thing"] (spRowV K (.bl true)) := by
  have D_is_whole_tuple : DefOk P w K mg base CX0 2 "is_whole_tuple" ["thing"] (spIWT K) := ok_is_whole_tuple T B
  refine def_of T.d_is_row T.g_is_row (fun _ _ _ _ _ _ us hl => match us, hl with | [_], _ => rfl) fun fd F => ?_
  refine F.ok sc_is_row (fun vs H Q E h => ?_) (fun cdv A outer s H vs Q E hr h => ?_)
  · obtain ⟨a, l, rfl, _⟩ := h; rfl
  · obtain ⟨a, l, rfl, hS, h1, h2, nd, tg, q⟩ := h
    refine ⟨_, PSs.nox (pss_one (ps_ret (pe_and (pe_callD D_is_whole_tuple hr (by rfl) pass0 (pa_cons (pv 0) pa_nil)) (pe_one (pe_cmpR op_eq (pe_lenSetT rfl (by rfl) T.n_len (by rfl) T.n_set (pv 0)) (pe_callB (lenK K) (by rfl) T.n_len boot_len (pa_cons (pv 0) pa_nil)) (nomark _)))))), ?_⟩
    refine ⟨_, rfl, a, l, rfl, hS, h1, h2, tg, fun H1 g1 => ⟨_, rfl, iteT ?_⟩⟩
    have hS1 := ext_sqt g1.ext hS
    have hl : (l.map V.int).length = l.length := List.length_map ..
    refine ⟨_, rfl, a, l, rfl, hS1, by omega, nd, _, rfl, a, _, rfl, .inr hS1, rfl, ?_⟩
    rw [hl, decide_eq_true rfl]
    exact q _ g1

theorem ok_need_row (T : Txt K mg) (B : TBs K mg base) : DefOk P w K mg base (L2.CX P w) 4 "need_row" ["thing"] (spRowV K .non) := by
  have D_is_row : DefOk P w K mg base CX0 3 "is_row" ["thing"] (spRowV K (.bl true)) := ok_is_row T B
  refine def_of T.d_need_row T.g_need_row (fun _ _ _ _ _ _ us hl => match us, hl with | [_], _ => rfl) fun fd F => ?_
  refine F.ok sc_need_row (fun vs H Q E h => ?_) (fun cdv A outer s H vs Q E hr h => ?_)
  · obtain ⟨a, l, rfl, _⟩ := h; rfl
  · obtain ⟨a, l, rfl, hS, h1, h2, nd, tg, q⟩ := h
    refine ⟨_, (pss_one (ps_if (pt_not (pt_val (pe_callD D_is_row hr (by rfl) pass0 (pa_cons (pv 0) pa_nil)))) (pss_one (ps_raise rfl (takes_of rfl rfl rfl rfl) (pmk_own PySem.F.excBase_ValueError T.x_NoRow T.g_NoRow T.k_NoRow (raises_own T.b_NoRow T.t_NoRow) (by exact rfl)))) pss_nil)), ?_⟩
    exact ⟨_, rfl, a, l, rfl, hS, h1, h2, nd, tg, fun H1 g1 => ⟨_, rfl, iteF (q _ g1)⟩⟩

/-- the order of a row whose rising form is ms -/
def ordL (ms l : List Int) : List Int := l.map fun x => ((idxN x ms : Nat) : Int) + 1
def spOrdOf (K : PySem.W.Frag) : Sp := fun vs H Q _ => ∃ (a : Addr) (l : List Int), vs = [.ref a] ∧ SqT K H a (l.map V.int) ∧ 1 ≤ l.length ∧ l.length ≤ 40 ∧ l.Nodup ∧ TG (Ps K) H ∧ ∀ H' p ms, ms.Perm l → ms.Pairwise (· ≤ ·) → Go (Ps K) H H' → Zt H' p (ordL ms l) → Q (.ref p) H'
theorem ok_order_of (T : Txt K mg) (B : TBs K mg base) : DefOk P w K mg base (L2.CX P w) 5 "order_of" ["row"] (spOrdOf K) := by
  have D_need_row : DefOk P w K mg base (L2.CX P w) 4 "need_row" ["thing"] (spRowV K .non) := ok_need_row T B
  have TB0 := B.order_of
  refine def_of T.d_order_of T.g_order_of (fun _ _ _ _ _ _ us hl => match us, hl with | [_], _ => rfl) fun fd F => ?_
  obtain ⟨oc, od, dV, kV, doc, pm, an, cdv, ct, osl, rfl, lk, hcd, _, _⟩ := F.ex
  obtain ⟨c0, rfl⟩ := He.codeIn_ref hcd
  have ec : He.codeOf K ("order_of", none) = c0 := He.codeOf_eq lk rfl
  have eC : (He.cT K ("order_of", none)).1 = c0 := ec
  rw [eC] at TB0
  have TB := tab_of TB0
  generalize ePt : (He.cT K ("order_of", none)).2 = Pt at *
  have hPt : Pt ∈ Ps K := ePt ▸ mem_order_of K
  refine fn_of lk hcd sc_order_of (fun vs H Q E h => ?_) (fun A outer s H vs Q E hr h => ?_)
  · obtain ⟨a, l, rfl, _⟩ := h; rfl
  · obtain ⟨a, l, rfl, hS, h1, h2, nd, tg, q⟩ := h
    have hcode : (envOfC "order_of" (defScope S_order_of) s.heap.objs.size (He.ga K "order_of") (.ref c0)).code = .ref c0 := rfl
    refine ⟨_, (pss_cons (ps_expr (pe_callD (E := E) D_need_row hr (by rfl) (passOut (takes_of rfl rfl rfl rfl)) (pa_cons (pv 0) pa_nil)))
 (pss_cons (ps_set (i := 1) sc_order_of.nd rfl (Or.inr rfl) (pe_callB (sortedTupK K) (by rfl) T.n_sorted (by decide +kernel) (pa_cons (pv 0) pa_nil)))
 (pss_one (ps_ret (pe_tupG hr (by rfl) T.n_tuple TB hcode (genS_by (show genSB (defScope S_order_of) _ "number" = true by decide +kernel)) (pv 0) (ple_add (ple_lix (ple_free 1 (genS_by (show genSB (defScope S_order_of) _ "number" = true by decide +kernel)) (by rfl) (by rfl) (by rfl)) (ple_item (by rfl) (by rfl))) ple_int) (fun _ => rfl)))))), ?_⟩
    refine ⟨_, rfl, a, l, rfl, hS, h1, h2, nd, tg, fun H1 g1 => ?_⟩
    have hS1 := ext_sqt g1.ext hS
    refine ⟨_, rfl, a, l, rfl, hS1, fun ms r pm pw nr => ?_⟩
    have sr := same_new (o := .lst (ms.map V.int)) nr
    have g2 := g1.same sr
    have hS2 := ext_sqt (Same.ext sr) hS1
    have hl : (l.map V.int).length = l.length := List.length_map ..
    refine ⟨_, rfl, g2.tab _ hPt, a, l.map V.int, fun i => .int (((idxN (l.getD i 0) ms : Nat) : Int) + 1), rfl, hS2, fun i w hw => ?_, fun H2 p ob d ht np => ?_⟩
    · obtain ⟨z, hz, rfl⟩ := get_ints hw
      have ez : l.getD i 0 = z := by rw [List.getD_eq_getElem?_getD, hz]; rfl
      obtain ⟨i1, i2⟩ := idxN_at (x := z) (s := ms) (pm.mem_iff.mpr (List.mem_of_getElem? hz))
      refine ⟨_, _, ⟨r, ms, _, _, rfl, SqL.of upd_same, rfl, i1, i2, rfl⟩, rfl, ?_⟩
      show V.int (((idxN (l.getD i 0) ms : Nat) : Int) + 1) = V.int (((idxN z ms : Nat) : Int) + 1)
      rw [ez]
    · have g3 := g2.tabbed (g2.tab _ hPt) ht
      rw [hl, range_get l fun x => ((idxN x ms : Nat) : Int) + 1]
      exact q _ p ms pm pw (g3.same (same_new np)) ⟨ob, d, upd_same⟩

def woL (b : Int) (l : List Int) : List Int := (l.filter fun x => x != b).map fun x => if b < x then x - 1 else x
def spWo (K : PySem.W.Frag) : Sp := fun vs H Q _ => ∃ (a : Addr) (l : List Int) (b : Int), vs = [.ref a, .int b] ∧ SqT K H a (l.map V.int) ∧ Ord l ∧ b ∈ l ∧ 2 ≤ l.length ∧ TG (Ps K) H ∧ ∀ H' p, Go (Ps K) H H' → Zt H' p (woL b l) → Q (.ref p) H'
theorem short_one : Short 1 := by
  refine ⟨by decide +kernel, by decide +kernel, by decide +kernel⟩
theorem short_len {n : Nat} (h : n ≤ 40) : ((n : Int).natAbs.log2 < 1920 ∧ (Str.empty ++ ("the number is not from " : Str) ++ (toString (1 : Int) : Str) ++ (" to " : Str) ++ (toString (n : Int) : Str)).length ≤ sizeLine) := by
  have key : ((List.range 41).all fun n => decide ((n : Int).natAbs.log2 < 1920) && decide ((Str.empty ++ ("the number is not from " : Str) ++ (toString (1 : Int) : Str) ++ (" to " : Str) ++ (toString (n : Int) : Str)).length ≤ sizeLine)) = true := by decide +kernel
  have z := List.all_eq_true.mp key n (List.mem_range.mpr (by omega))
  rw [Bool.and_eq_true] at z
  exact ⟨of_decide_eq_true z.1, of_decide_eq_true z.2⟩
theorem range_filter (l : List Int) (pz : Int → Bool) (f : Int → Int) : ((List.range l.length).filter fun i => pz (l.getD i 0)).map (fun i => V.int (f (l.getD i 0))) = ((l.filter pz).map f).map V.int := by
  have e : l = (List.range l.length).map fun i => l.getD i 0 := by
    refine List.ext_getElem? fun i => ?_
    rw [List.getElem?_map]
    by_cases h : i < l.length
    · rw [List.getElem?_range h, List.getElem?_eq_getElem h]
      show some l[i] = some (l.getD i 0)
      rw [List.getD_eq_getElem?_getD, List.getElem?_eq_getElem h]; rfl
    · rw [List.getElem?_eq_none (by omega), List.getElem?_eq_none (by rw [List.length_range]; omega)]; rfl
  conv => rhs; rw [e, List.filter_map, List.map_map, List.map_map]
  rfl
theorem ok_without (T : Txt K mg) (B : TBs K mg base) : DefOk P w K mg base (L2.CX P w) 5 "without" ["order", "number"] (spWo K) := by
  have D_need_order : DefOk P w K mg base (L2.CX P w) 4 "need_order" ["thing"] (spOrdV K .non) := ok_need_order T B
  have D_need_number : DefOk P w K mg base (L2.CX P w) 2 "need_number" ["thing", "least", "most"] (spNeed K (He.ga K "NoNumber")) := ok_need_number T
  have TB0 := B.without
  refine def_of T.d_without T.g_without (fun _ _ _ _ _ _ us hl => match us, hl with | [_, _], _ => rfl) fun fd F => ?_
  obtain ⟨oc, od, dV, kV, doc, pm, an, cdv, ct, osl, rfl, lk, hcd, _, _⟩ := F.ex
  obtain ⟨c0, rfl⟩ := He.codeIn_ref hcd
  have ec : He.codeOf K ("without", none) = c0 := He.codeOf_eq lk rfl
  have eC : (He.cT K ("without", none)).1 = c0 := ec
  rw [eC] at TB0
  have TB := tab_of TB0
  generalize ePt : (He.cT K ("without", none)).2 = Pt at *
  have hPt : Pt ∈ Ps K := ePt ▸ mem_without K
  refine fn_of lk hcd sc_without (fun vs H Q E h => ?_) (fun A outer s H vs Q E hr h => ?_)
  · obtain ⟨a, l, b, rfl, _⟩ := h; rfl
  · obtain ⟨a, l, b, rfl, hS, o, hb, h2, tg, q⟩ := h
    have hcode : (envOfC "without" (defScope S_without) s.heap.objs.size (He.ga K "without") (.ref c0)).code = .ref c0 := rfl
    refine ⟨_, (pss_cons (ps_expr (pe_callD (E := E) D_need_order hr (by rfl) (passOut (takes_of rfl rfl rfl rfl)) (pa_cons (pv 0) pa_nil)))
 (pss_cons (ps_expr (pe_callD (E := E) D_need_number hr (by rfl) (passOut (takes_of rfl rfl rfl rfl)) (pa_cons (pv 1) (pa_cons pe_int (pa_cons (pe_callB (lenK K) (by rfl) T.n_len boot_len (pa_cons (pv 0) pa_nil)) pa_nil)))))
 (pss_cons (ps_if (pt_cmpR op_eq (pe_callB (lenK K) (by rfl) T.n_len boot_len (pa_cons (pv 0) pa_nil)) pe_int (nomark _)) (pss_one (ps_raise rfl (takes_of rfl rfl rfl rfl) (pmk_own PySem.F.excBase_ValueError T.x_NoNumber T.g_NoNumber T.k_NoNumber (raises_own T.b_NoNumber T.t_NoNumber) (by exact rfl)))) pss_nil)
 (pss_one (ps_ret (pe_tupF hr (by rfl) T.n_tuple TB hcode (genS_by (show genSB (defScope S_without) _ "other" = true by decide +kernel)) (pv 0) (plt_ne (ple_item (by rfl) (by rfl)) (ple_free 1 (genS_by (show genSB (defScope S_without) _ "other" = true by decide +kernel)) (by rfl) (by rfl) (by rfl))) (ple_if (plt_gt (ple_item (by rfl) (by rfl)) (ple_free 1 (genS_by (show genSB (defScope S_without) _ "other" = true by decide +kernel)) (by rfl) (by rfl) (by rfl))) (ple_sub (ple_item (by rfl) (by rfl)) ple_int) (ple_item (by rfl) (by rfl))) (fun _ => rfl))))))), ?_⟩
    refine ⟨_, rfl, a, l, rfl, hS, o, tg, fun H1 g1 => ?_⟩
    have hS1 := ext_sqt g1.ext hS
    have hl : (l.map V.int).length = l.length := List.length_map ..
    obtain ⟨b1, b2⟩ := o.mem.mp hb
    refine ⟨_, rfl, _, rfl, a, _, rfl, .inr hS1, .int b, 1, ((l.map V.int).length : Int), true, rfl, short_one, by rw [hl]; exact short_len o.few, thing_int _, fun _ => ?_, fun no => absurd ⟨b, rfl, b1, by rw [hl]; exact b2⟩ no⟩
    refine ⟨_, rfl, a, _, rfl, .inr hS1, rfl, _, rfl, ?_⟩
    rw [hl]
    refine ite2 (fun c => absurd (V.int.inj (of_decide_eq_true c)) (by omega)) (fun c => ?_)
    refine ⟨_, rfl, g1.tab _ hPt, a, l.map V.int, fun i => l.getD i 0 != b, fun i => .int (if b < l.getD i 0 then l.getD i 0 - 1 else l.getD i 0), rfl, hS1, fun i w hw => ?_, fun H2 p ob d ht np => ?_⟩
    · obtain ⟨z, hz, rfl⟩ := get_ints hw
      have ez : l.getD i 0 = z := by rw [List.getD_eq_getElem?_getD, hz]; rfl
      show rCmp _ _ _ _ _ _ (l.getD i 0 != b) ∧ _
      rw [ez]
      refine ⟨⟨z, b, rfl, rfl, rfl⟩, fun _ => ?_⟩
      refine ⟨_, _, _, ⟨z, b, rfl, rfl, rfl⟩, ⟨_, _, rfl, rfl, rfl⟩, rfl, ?_⟩
      show V.int (if b < l.getD i 0 then l.getD i 0 - 1 else l.getD i 0) = if decide (b < z) then V.int (z - 1) else V.int z
      rw [ez]
      by_cases c : b < z
      · rw [if_pos c, if_pos (decide_eq_true c)]
      · rw [if_neg c, if_neg (fun y => c (of_decide_eq_true y))]
    · have g2 := g1.tabbed (g1.tab _ hPt) ht
      rw [hl, range_filter l (fun x => x != b) fun x => if b < x then x - 1 else x]
      exact q _ p (g2.same (same_new np)) ⟨ob, d, upd_same⟩

theorem cut_nat {xs : List V} {k : Nat} (h : k ≤ xs.length) : cutV xs (some (k : Int)) none = xs.drop k := by
  unfold cutV
  rw [HT.sIx_none, HT.sIx_nat, Nat.min_eq_left h, List.take_of_length_le (by rw [List.length_drop]; exact Nat.le_refl _)]
theorem drop_sq {K : PySem.W.Frag} {H : Hp} {Q : VK} {t : Addr} {l : List Int} {k : Nat} (hS : SqT K H t (l.map V.int)) (hk : 0 < k) (hl : k ≤ l.length) (q : ∀ p, H p = none → Q (.ref p) (upd H p (.tup ((l.drop k).map V.int)))) : rSlA K (.ref t) (some (k : Int)) none H Q := by
  refine ⟨t, _, rfl, hS, fun c => ?_, fun c p np => ?_⟩
  · have z := c.1
    rw [HT.sIx_nat, List.length_map] at z
    omega
  · rw [cut_nat (by rw [List.length_map]; exact hl), ← List.map_drop]
    exact q p np
def spTurns (K : PySem.W.Frag) : Sp := fun vs H Q _ => ∃ (a : Addr) (l : List Int), vs = [.ref a] ∧ SqT K H a (l.map V.int) ∧ Ord l ∧ TG (Ps K) H ∧ ∀ H', Go (Ps K) H H' → Q (.str (textB (tb l))) H'
theorem ok_turns (T : Txt K mg) (B : TBs K mg base) : DefOk P w K mg base (L2.CX P w) 5 "turns" ["order"] (spTurns K) := by
  have D_need_order : DefOk P w K mg base (L2.CX P w) 4 "need_order" ["thing"] (spOrdV K .non) := ok_need_order T B
  have TB0 := B.turns
  refine def_of T.d_turns T.g_turns (fun _ _ _ _ _ _ us hl => match us, hl with | [_], _ => rfl) fun fd F => ?_
  obtain ⟨oc, od, dV, kV, doc, pm, an, cdv, ct, osl, rfl, lk, hcd, _, _⟩ := F.ex
  obtain ⟨c0, rfl⟩ := He.codeIn_ref hcd
  have ec : He.codeOf K ("turns", none) = c0 := He.codeOf_eq lk rfl
  have eC : (He.cT K ("turns", none)).1 = c0 := ec
  rw [eC] at TB0
  have TB := tab_of TB0
  generalize ePt : (He.cT K ("turns", none)).2 = Pt at *
  have hPt : Pt ∈ Ps K := ePt ▸ mem_turns K
  refine fn_of lk hcd sc_turns (fun vs H Q E h => ?_) (fun A outer s H vs Q E hr h => ?_)
  · obtain ⟨a, l, rfl, _⟩ := h; rfl
  · obtain ⟨a, l, rfl, hS, o, tg, q⟩ := h
    have hcode : (envOfC "turns" (defScope S_turns) s.heap.objs.size (He.ga K "turns") (.ref c0)).code = .ref c0 := rfl
    refine ⟨_, (pss_cons (ps_expr (pe_callD (E := E) D_need_order hr (by rfl) (passOut (takes_of rfl rfl rfl rfl)) (pa_cons (pv 0) pa_nil)))
 (pss_one (ps_ret (pe_joinZ hr TB hcode (genS_by (show genSB (defScope S_turns) _ "number" = true by decide +kernel)) (genS_by (show genSB (defScope S_turns) _ "behind" = true by decide +kernel)) (by decide) (by rfl) T.n_zip pe_str (pa_cons (pv 0) (pa_cons (pe_slice (slAK K) (pv 0) (po_some pe_int) po_none) pa_nil)) (pairE_lt (by rfl) (by rfl) (by rfl)) (fun _ => rfl))))), ?_⟩
    refine ⟨_, rfl, a, l, rfl, hS, o, tg, fun H1 g1 => ?_⟩
    have hS1 := ext_sqt g1.ext hS
    have hpos := o.pos
    have hfew := o.few
    refine ⟨"", rfl, _, rfl, _, rfl, 1, rfl, ?_⟩
    dsimp only [tNoPart]
    refine drop_sq (k := 1) hS1 (by decide) hpos fun p np => ?_
    have sp := same_new (o := .tup ((l.drop 1).map V.int)) np
    have g2 := g1.same sp
    refine ⟨a, p, l, l.drop 1, rfl, ext_sqt (Same.ext sp) hS1, SqT.of upd_same, g2.tab _ hPt, ?_, ?_, fun H3 ht => ?_⟩
    · rw [pairs_tb]
      exact joinOk_signs (by rw [tb_len]; omega)
    · exact sz' (by omega)
    · rw [pairs_tb, join_signs]
      exact q _ (g2.tabbed (g2.tab _ hPt) ht)

def spGoes (K : PySem.W.Frag) : Sp := fun vs H Q _ => ∃ (a : Addr) (l : List Int) (b : Bool), vs = [.ref a, .str (both b)] ∧ SqT K H a (l.map V.int) ∧ Ord l ∧ TG (Ps K) H ∧ ∀ H', Go (Ps K) H H' → Q (.bl (decide (tb l = altB b (l.length - 1)))) H'
theorem ok_goes_by_turns (T : Txt K mg) (B : TBs K mg base) : DefOk P w K mg base CX0 6 "goes_by_turns" ["thing", "both"] (spGoes K) := by
  have D_is_order : DefOk P w K mg base CX0 3 "is_order" ["thing"] (spOrdV K (.bl true)) := ok_is_order T B
  have D_turns : DefOk P w K mg base (L2.CX P w) 5 "turns" ["order"] (spTurns K) := ok_turns T B
  refine def_of T.d_goes_by_turns T.g_goes_by_turns (fun _ _ _ _ _ _ us hl => match us, hl with | [_, _], _ => rfl) fun fd F => ?_
  refine F.ok sc_goes_by_turns (fun vs H Q E h => ?_) (fun cdv A outer s H vs Q E hr h => ?_)
  · obtain ⟨a, l, b, rfl, _⟩ := h; rfl
  · obtain ⟨a, l, b, rfl, hS, o, tg, q⟩ := h
    refine ⟨_, PSs.nox (pss_cons (ps_if (pt_not (pt_val (pe_callD D_is_order hr (by rfl) pass0 (pa_cons (pv 0) pa_nil)))) (pss_one (ps_ret pe_bl)) pss_nil)
 (pss_one (ps_ret (pe_cmpR op_eq (pe_callD D_turns hr (by rfl) passL (pa_cons (pv 0) pa_nil)) (pe_slice sl_str (pe_op op_mulS (pv 1) (pe_callB (lenK K) (by rfl) T.n_len boot_len (pa_cons (pv 0) pa_nil))) po_none (po_some (pe_op op_sub (pe_callB (lenK K) (by rfl) T.n_len boot_len (pa_cons (pv 0) pa_nil)) pe_int))) (nomark _))))), ?_⟩
    refine ⟨_, rfl, a, l, rfl, hS, o, tg, fun H1 g1 => ⟨_, rfl, iteF ?_⟩⟩
    have hS1 := ext_sqt g1.ext hS
    have hl : (l.map V.int).length = l.length := List.length_map ..
    obtain ⟨bl, bm⟩ := both_len (b := b) o.few
    refine ⟨_, rfl, a, l, rfl, hS1, o, g1.tab, fun H2 g2 => ?_⟩
    have hS2 := ext_sqt g2.ext hS1
    refine ⟨_, rfl, _, rfl, a, _, rfl, .inr hS2, both b, (((l.map V.int).length : Nat) : Int), rfl, rfl, by rw [hl]; exact bm, ?_⟩
    dsimp only [tNoPart]
    refine ⟨_, rfl, a, _, rfl, .inr hS2, _, _, rfl, rfl, _, rfl, ?_⟩
    refine ⟨_, rfl, by rw [hl]; exact bl, rfl, ?_⟩
    rw [hl, both_cut o.pos o.few]
    have e : decide (V.str (textB (tb l)) = V.str (textB (altB b (l.length - 1)))) = decide (tb l = altB b (l.length - 1)) := by
      rw [Bool.eq_iff_iff, decide_eq_true_eq, decide_eq_true_eq]
      exact ⟨fun z => textB_inj (V.str.inj z), fun z => by rw [z]⟩
    rw [e]
    exact q _ (g1.trans g2)

def spUD (K : PySem.W.Frag) (b : Bool) : Sp := fun vs H Q _ => ∃ (a : Addr) (l : List Int), vs = [.ref a] ∧ SqT K H a (l.map V.int) ∧ Ord l ∧ TG (Ps K) H ∧ ∀ H', Go (Ps K) H H' → Q (.bl (decide (tb l = altB b (l.length - 1)))) H'
theorem ok_is_updown (T : Txt K mg) (B : TBs K mg base) : DefOk P w K mg base CX0 7 "is_updown" ["thing"] (spUD K true) := by
  have D_goes_by_turns : DefOk P w K mg base CX0 6 "goes_by_turns" ["thing", "both"] (spGoes K) := ok_goes_by_turns T B
  refine def_of T.d_is_updown T.g_is_updown (fun _ _ _ _ _ _ us hl => match us, hl with | [_], _ => rfl) fun fd F => ?_
  refine F.ok sc_is_updown (fun vs H Q E h => ?_) (fun cdv A outer s H vs Q E hr h => ?_)
  · obtain ⟨a, l, rfl, _⟩ := h; rfl
  · obtain ⟨a, l, rfl, hS, o, tg, q⟩ := h
    refine ⟨_, PSs.nox (pss_one (ps_ret (pe_callD D_goes_by_turns hr (by rfl) pass0 (pa_cons (pv 0) (pa_cons pe_str pa_nil))))), ?_⟩
    exact ⟨_, rfl, a, l, true, rfl, hS, o, tg, q⟩
theorem ok_is_downup (T : Txt K mg) (B : TBs K mg base) : DefOk P w K mg base CX0 7 "is_downup" ["thing"] (spUD K false) := by
  have D_goes_by_turns : DefOk P w K mg base CX0 6 "goes_by_turns" ["thing", "both"] (spGoes K) := ok_goes_by_turns T B
  refine def_of T.d_is_downup T.g_is_downup (fun _ _ _ _ _ _ us hl => match us, hl with | [_], _ => rfl) fun fd F => ?_
  refine F.ok sc_is_downup (fun vs H Q E h => ?_) (fun cdv A outer s H vs Q E hr h => ?_)
  · obtain ⟨a, l, rfl, _⟩ := h; rfl
  · obtain ⟨a, l, rfl, hS, o, tg, q⟩ := h
    refine ⟨_, PSs.nox (pss_one (ps_ret (pe_callD D_goes_by_turns hr (by rfl) pass0 (pa_cons (pv 0) (pa_cons pe_str pa_nil))))), ?_⟩
    exact ⟨_, rfl, a, l, false, rfl, hS, o, tg, q⟩

theorem ok_law_cell_at (T : Txt K mg) : DefOk P w K mg base CX0 1 "_law_cell_at" ["_law_script", "_law_k"] (spCellAt K) := by
  refine def_of T.d_law_cell_at T.g_law_cell_at (fun _ _ _ _ _ _ us hl => match us, hl with | [_, _], _ => rfl) fun fd F => ?_
  refine F.ok sc_law_cell_at (fun vs H Q E h => ?_) (fun cdv A outer s H vs Q E hr h => ?_)
  · obtain ⟨a, ns, i, rfl, _⟩ := h; rfl
  · obtain ⟨a, ns, i, rfl, hS, q⟩ := h
    refine ⟨_, PSs.nox (pss_cons (ps_if (pt_cmpR op_lt (pv 1) (pe_callB (lenK K) (by rfl) T.n_len boot_len (pa_cons (pv 0) pa_nil)) (nomark _)) (pss_one (ps_ret (pe_ix (ixLK K) (pv 0) (pv 1) (fun _ _ => rfl)))) pss_nil)
 (pss_one (ps_ret pe_int))), ?_⟩
    refine ⟨_, rfl, _, rfl, _, _, rfl, .inl hS, _, _, rfl, rfl, _, rfl, ite2 (fun c => ?_) (fun c => ?_)⟩
    · have c := of_decide_eq_true c
      rw [List.length_map] at c
      have hi : i < ns.length := by omega
      refine ⟨_, rfl, _, rfl, a, _, _, _, rfl, rfl, hS, atI_nat (j := i) (v := .int ns[i]) (by rw [List.getElem?_map, List.getElem?_eq_getElem hi]; rfl), q _⟩
    · exact q _

theorem ok_law_draw (T : Txt K mg) : DefOk P w K mg base CX0 1 "_law_draw" ["_law_cell", "_law_k", "_law_bound"] spDraw := by
  refine def_of T.d_law_draw T.g_law_draw (fun _ _ _ _ _ _ us hl => match us, hl with | [_, _, _], _ => rfl) fun fd F => ?_
  refine F.ok sc_law_draw (fun vs H Q E h => ?_) (fun cdv A outer s H vs Q E hr h => ?_)
  · obtain ⟨c, k, b, rfl, _⟩ := h; rfl
  · obtain ⟨c, k, b, rfl, k0, k1, b0, b1, q⟩ := h
    refine ⟨_, PSs.nox (pss_cons (ps_if (pt_cmpR op_ge (pv 0) (pe_op op_pow pe_int pe_int) (nomark _)) (pss_cons (ps_set (i := 3) sc_law_draw.nd rfl (Or.inl rfl) (pv 0))
 (pss_cons (ps_for PassesOwn.never rfl (pi_range1 (by rfl) T.n_range (pa_cons (pv 1) pa_nil)) (pg_name (i := 4) sc_law_draw.nd rfl (Or.inl rfl)) (pss_cons (ps_if (pt_cmpR op_eq (pv 3) pe_int (nomark _)) (pss_one (ps_ret pe_int)) pss_nil)
 (pss_one (ps_set (i := 3) sc_law_draw.nd rfl (Or.inl rfl) (pe_op op_fdiv (pv 3) (pv 2))))))
 (pss_one (ps_ret (pe_op op_mod (pv 3) (pv 2)))))) pss_nil)
 (pss_cons (ps_set (i := 5) sc_law_draw.nd rfl (Or.inl rfl) (pe_op op_mod (pe_op op_mul (pe_op op_add (pe_op op_add (pe_op op_mod (pv 0) pe_int) (pe_op op_mul pe_int (pv 1))) pe_int) pe_int) pe_int))
 (pss_cons (ps_set (i := 5) sc_law_draw.nd rfl (Or.inl rfl) (pe_op op_mod (pe_op op_add (pe_op op_add (pe_op op_mul (pv 5) (pv 5)) (pe_op op_mul pe_int (pv 1))) pe_int) pe_int))
 (pss_one (ps_ret (pe_op op_mod (pe_op op_fdiv (pe_op op_mod (pe_op op_mul (pv 5) pe_int) pe_int) pe_int) (pv 2))))))), ?_⟩
    have rng : ∀ z : Int, 0 ≤ z % b ∧ z % b < b := fun z => ⟨Int.emod_nonneg z (by omega), Int.emod_lt_of_pos z (by omega)⟩
    refine ⟨_, rfl, _, _, rfl, rfl, ⟨by decide, by decide, by decide⟩, _, _, rfl, rfl, _, rfl, ite2 (fun e => ?_) (fun e => ?_)⟩
    · refine ⟨_, rfl, _, rfl, k, rfl, by omega, by omega, for_range (lo := 0) (n := k.toNat) (fun i σ H' => ∃ l y z, σ = [some (.int c), some (.int k), some (.int b), some (.int l), y, z] ∧ H' = H) ⟨c, none, none, rfl, rfl⟩ ?_ ?_⟩
      · rintro i σ H' hi ⟨l, y, z, rfl, rfl⟩
        refine ⟨_, rfl, rfl, _, rfl, ite2 (fun e2 => ?_) (fun e2 => ?_)⟩
        · exact q 0 (by omega) b0
        · exact ⟨_, rfl, _, rfl, _, _, rfl, rfl, ⟨b0, b1⟩, _, _, _, rfl, rfl⟩
      · rintro σ H' ⟨l, y, z, rfl, rfl⟩
        exact ⟨_, rfl, _, rfl, _, _, rfl, rfl, b0, q _ (rng l).1 (rng l).2⟩
    · have m1 := Int.emod_nonneg c (show (1000000007 : Int) ≠ 0 by decide)
      have m2 := Int.emod_lt_of_pos c (show (0 : Int) < 1000000007 by decide)
      refine ⟨_, rfl, _, _, rfl, rfl, (by show (0 : Int) < 1000000007; decide), _, rfl, _, _, rfl, rfl, .inl ⟨by decide, by decide⟩, _, _, rfl, rfl, _, _, rfl, rfl, _, _, rfl, rfl, .inr ⟨by decide, by decide⟩, _, _, rfl, rfl, (by show (0 : Int) < 2147483647; decide), ?_⟩
      generalize hs : ((c % 1000000007 + 1009 * k + 17) * 69621) % 2147483647 = st
      have s1 : 0 ≤ st := by rw [← hs]; exact Int.emod_nonneg _ (by decide)
      have s2 : st < 2147483647 := by rw [← hs]; exact Int.emod_lt_of_pos _ (by decide)
      refine ⟨_, rfl, _, rfl, _, _, rfl, rfl, .inl ⟨by omega, by omega⟩, _, rfl, _, _, rfl, rfl, .inl ⟨by decide, by decide⟩, _, _, rfl, rfl, _, _, rfl, rfl, _, _, rfl, rfl, (by show (0 : Int) < 2147483629; decide), ?_⟩
      generalize (st * st + 40503 * k + 5) % 2147483629 = su
      refine ⟨_, rfl, _, _, rfl, rfl, .inr ⟨by decide, by decide⟩, _, _, rfl, rfl, (by show (0 : Int) < 2147483647; decide), _, _, rfl, rfl, ⟨by decide, by decide⟩, _, rfl, _, _, rfl, rfl, b0, q _ (rng _).1 (rng _).2⟩

def ins (l : List Int) (k : Nat) (x : Int) : List Int := l.take k ++ [x] ++ l.drop k
theorem ins_map (l : List Int) (k : Nat) (x : Int) : some (HO.lst ((l.map V.int).take k ++ [V.int x] ++ (l.map V.int).drop k)) = some (HO.lst ((ins l k x).map V.int)) := by
  unfold ins
  rw [List.map_append, List.map_append, List.map_take, List.map_drop]; rfl
theorem ins_len (l : List Int) (k : Nat) (x : Int) : (ins l k x).length = l.length + 1 := by
  unfold ins
  rw [List.length_append, List.length_append, List.length_take, List.length_drop]
  show min k l.length + 1 + (l.length - k) = _
  omega
theorem ins_perm {l : List Int} {k i : Nat} (p : l.Perm (rng i)) : (ins l k (1 + (i : Int))).Perm (rng (i + 1)) := by
  unfold ins
  have e : rng (i + 1) = rng i ++ [1 + (i : Int)] := by
    unfold rng
    rw [List.range_succ, List.map_append]; rfl
  rw [e, List.append_assoc]
  refine (List.perm_append_comm_assoc ..).trans ?_
  rw [List.take_append_drop]
  exact (List.perm_append_comm).trans (p.append_right _)
def spLawOrder : Sp := fun vs H Q _ => ∃ c m : Int, vs = [.int c, .int 0, .int m] ∧ 1 ≤ m ∧ m ≤ 40 ∧ ∀ H' p l, Same H H' → Zt H' p l → Ord l → Q (.ref p) H'
theorem ok_law_order (T : Txt K mg) : DefOk P w K mg base CX0 2 "_law_order" ["_law_cell", "_law_at", "_law_most"] spLawOrder := by
  have D_law_draw : DefOk P w K mg base CX0 1 "_law_draw" ["_law_cell", "_law_k", "_law_bound"] spDraw := ok_law_draw T
  refine def_of T.d_law_order T.g_law_order (fun _ _ _ _ _ _ us hl => match us, hl with | [_, _, _], _ => rfl) fun fd F => ?_
  refine F.ok sc_law_order (fun vs H Q E h => ?_) (fun cdv A outer s H vs Q E hr h => ?_)
  · obtain ⟨c, m, rfl, _⟩ := h; rfl
  · obtain ⟨c, m, rfl, m1, m40, kY⟩ := h
    refine ⟨_, PSs.nox (pss_cons (ps_set (i := 3) sc_law_order.nd rfl (Or.inl rfl) (pe_op op_add pe_int (pe_callD D_law_draw hr (by rfl) pass0 (pa_cons (pv 0) (pa_cons (pv 1) (pa_cons (pv 2) pa_nil))))))
 (pss_cons (ps_set (i := 4) sc_law_order.nd rfl (Or.inl rfl) (pe_callD D_law_draw hr (by rfl) pass0 (pa_cons (pv 0) (pa_cons (pe_op op_add (pv 1) pe_int) (pa_cons pe_int pa_nil)))))
 (pss_cons (ps_set (i := 5) sc_law_order.nd rfl (Or.inl rfl) (pe_lst pa_nil))
 (pss_cons (ps_for PassesOwn.never rfl (pi_range2 (by rfl) T.n_range (pa_cons pe_int (pa_cons (pe_op op_add (pv 3) pe_int) pa_nil))) (pg_name (i := 6) sc_law_order.nd rfl (Or.inl rfl)) (pss_cons (ps_set (i := 7) sc_law_order.nd rfl (Or.inl rfl) (pe_callD D_law_draw hr (by rfl) pass0 (pa_cons (pv 0) (pa_cons (pe_op op_add (pe_op op_add (pv 1) pe_int) (pv 6)) (pa_cons (pv 6) pa_nil)))))
 (pss_cons (ps_if (pt_cmpR op_eq (pv 4) pe_int (nomark _)) (pss_one (ps_set (i := 7) sc_law_order.nd rfl (Or.inl rfl) pe_int)) pss_nil)
 (pss_cons (ps_if (PW.pt (pw_or (pt_cmpR op_eq (pv 4) pe_int (nomark _)) (pw_or1 (PW.pt (pw_and (pt_cmpR op_eq (pv 4) pe_int (nomark _)) (pw_and1 (pt_cmpR op_gt (pe_callD D_law_draw hr (by rfl) pass0 (pa_cons (pv 0) (pa_cons (pe_op op_add (pe_op op_add (pv 1) pe_int) (pv 6)) (pa_cons pe_int pa_nil)))) pe_int (nomark _)))))))) (pss_one (ps_set (i := 7) sc_law_order.nd rfl (Or.inl rfl) (pe_op op_sub (pv 6) pe_int))) pss_nil)
 (pss_one (ps_expr (pe_bm PySem.F.plainAttrs_list PySem.F.slot_list_insert PySem.F.type_list_insert mt_insert (pv 5) (pa_cons (pv 7) (pa_cons (pv 6) pa_nil)))))))))
 (pss_one (ps_ret (pe_callTy (tupZK K) (by rfl) T.n_tuple (by decide +kernel) (pa_cons (pv 5) pa_nil)))))))), ?_⟩
    refine ⟨_, rfl, _, rfl, _, rfl, c, 0, m, rfl, by decide, by decide, by omega, by omega, fun r r0 r1 => ⟨_, _, rfl, rfl, ?_⟩⟩
    refine ⟨_, rfl, _, rfl, _, _, rfl, rfl, c, 1, 5, rfl, by decide, by decide, by decide, by decide, fun kd k0 k1 => ?_⟩
    refine ⟨sz 0, fun f nf => ?_⟩
    refine ⟨_, rfl, _, _, rfl, rfl, 1, 1 + r + 1, rfl, ⟨by omega, by omega, by omega, by omega⟩, ?_⟩
    have en : (1 + r + 1 - 1).toNat = (1 + r).toNat := by omega
    rw [en]
    refine for_range (lo := 1) (n := (1 + r).toNat) (fun i σ H' => ∃ fl x6 x7, σ = [some (.int c), some (.int 0), some (.int m), some (.int (1 + r)), some (.int kd), some (.ref f), x6, x7] ∧ Same H H' ∧ H' f = some (.lst (fl.map V.int)) ∧ fl.length = i ∧ fl.Perm (rng i))
      ⟨[], none, none, rfl, same_new nf, upd_same, rfl, List.Perm.refl _⟩ ?_ ?_
    · rintro i σ H' hi ⟨fl, x6, x7, rfl, sm, ef, lf, pm⟩
      have hi40 : i < 40 := by omega
      refine ⟨_, rfl, _, rfl, _, _, rfl, rfl, _, rfl, _, _, rfl, rfl, _, rfl, c, 0 + 2 + (1 + (i : Int)), 1 + (i : Int), rfl, by omega, by omega, by omega, by omega, fun sp s0 s1 => ?_⟩
      refine ⟨_, rfl, rfl, _, rfl, ite2 (fun c1 => ?_) (fun c1 => ?_)⟩
      · refine ⟨_, rfl, rfl, _, rfl, ite2 (fun c2 => ?_) (fun c2 => ?_)⟩
        · refine iteT ?_
          refine ⟨_, rfl, _, _, rfl, rfl, ?_⟩
          refine ⟨_, rfl, .inl ⟨rfl, _, SqL.of ef⟩, ?_⟩
          refine ⟨_, rfl, _, rfl, ?_⟩
          refine ⟨f, fl.map V.int, (1 + (i : Int) - 1), .int (1 + (i : Int)), rfl, rfl, ef, ?_⟩
          refine ⟨small_n (by rw [List.length_map, lf]; omega), by omega, by omega, ?_⟩
          exact Exists.intro (ins fl ((1 + (i : Int) - 1)).toNat (1 + (i : Int))) (Exists.intro _ (Exists.intro _ ⟨rfl, same_set sm nf, (by rw [upd_same]; exact ins_map _ _ _), (by rw [ins_len, lf]), ins_perm pm⟩))
        · refine ⟨_, rfl, rfl, _, rfl, ite2 (fun c3 => ?_) (fun c3 => ?_)⟩
          · refine ⟨_, rfl, _, rfl, _, _, rfl, rfl, _, rfl, _, _, rfl, rfl, c, 0 + 60 + (1 + (i : Int)), 5, rfl, by omega, by omega, by decide, by decide, fun d d0 d1 => ?_⟩
            refine ⟨_, _, rfl, rfl, _, rfl, ite2 (fun c4 => ?_) (fun c4 => ?_)⟩
            · refine ⟨_, rfl, _, _, rfl, rfl, ?_⟩
              refine ⟨_, rfl, .inl ⟨rfl, _, SqL.of ef⟩, ?_⟩
              refine ⟨_, rfl, _, rfl, ?_⟩
              refine ⟨f, fl.map V.int, (1 + (i : Int) - 1), .int (1 + (i : Int)), rfl, rfl, ef, ?_⟩
              refine ⟨small_n (by rw [List.length_map, lf]; omega), by omega, by omega, ?_⟩
              exact Exists.intro (ins fl ((1 + (i : Int) - 1)).toNat (1 + (i : Int))) (Exists.intro _ (Exists.intro _ ⟨rfl, same_set sm nf, (by rw [upd_same]; exact ins_map _ _ _), (by rw [ins_len, lf]), ins_perm pm⟩))
            · refine ⟨_, rfl, .inl ⟨rfl, _, SqL.of ef⟩, ?_⟩
              refine ⟨_, rfl, _, rfl, ?_⟩
              refine ⟨f, fl.map V.int, (0 : Int), .int (1 + (i : Int)), rfl, rfl, ef, ?_⟩
              refine ⟨small_n (by rw [List.length_map, lf]; omega), by omega, by omega, ?_⟩
              exact Exists.intro (ins fl ((0 : Int)).toNat (1 + (i : Int))) (Exists.intro _ (Exists.intro _ ⟨rfl, same_set sm nf, (by rw [upd_same]; exact ins_map _ _ _), (by rw [ins_len, lf]), ins_perm pm⟩))
          · refine iteF ?_
            refine ⟨_, rfl, .inl ⟨rfl, _, SqL.of ef⟩, ?_⟩
            refine ⟨_, rfl, _, rfl, ?_⟩
            refine ⟨f, fl.map V.int, (0 : Int), .int (1 + (i : Int)), rfl, rfl, ef, ?_⟩
            refine ⟨small_n (by rw [List.length_map, lf]; omega), by omega, by omega, ?_⟩
            exact Exists.intro (ins fl ((0 : Int)).toNat (1 + (i : Int))) (Exists.intro _ (Exists.intro _ ⟨rfl, same_set sm nf, (by rw [upd_same]; exact ins_map _ _ _), (by rw [ins_len, lf]), ins_perm pm⟩))
      · refine ⟨_, rfl, rfl, _, rfl, ite2 (fun c2 => ?_) (fun c2 => ?_)⟩
        · refine iteT ?_
          refine ⟨_, rfl, _, _, rfl, rfl, ?_⟩
          refine ⟨_, rfl, .inl ⟨rfl, _, SqL.of ef⟩, ?_⟩
          refine ⟨_, rfl, _, rfl, ?_⟩
          refine ⟨f, fl.map V.int, (1 + (i : Int) - 1), .int (1 + (i : Int)), rfl, rfl, ef, ?_⟩
          refine ⟨small_n (by rw [List.length_map, lf]; omega), by omega, by omega, ?_⟩
          exact Exists.intro (ins fl ((1 + (i : Int) - 1)).toNat (1 + (i : Int))) (Exists.intro _ (Exists.intro _ ⟨rfl, same_set sm nf, (by rw [upd_same]; exact ins_map _ _ _), (by rw [ins_len, lf]), ins_perm pm⟩))
        · refine ⟨_, rfl, rfl, _, rfl, ite2 (fun c3 => ?_) (fun c3 => ?_)⟩
          · refine ⟨_, rfl, _, rfl, _, _, rfl, rfl, _, rfl, _, _, rfl, rfl, c, 0 + 60 + (1 + (i : Int)), 5, rfl, by omega, by omega, by decide, by decide, fun d d0 d1 => ?_⟩
            refine ⟨_, _, rfl, rfl, _, rfl, ite2 (fun c4 => ?_) (fun c4 => ?_)⟩
            · refine ⟨_, rfl, _, _, rfl, rfl, ?_⟩
              refine ⟨_, rfl, .inl ⟨rfl, _, SqL.of ef⟩, ?_⟩
              refine ⟨_, rfl, _, rfl, ?_⟩
              refine ⟨f, fl.map V.int, (1 + (i : Int) - 1), .int (1 + (i : Int)), rfl, rfl, ef, ?_⟩
              refine ⟨small_n (by rw [List.length_map, lf]; omega), by omega, by omega, ?_⟩
              exact Exists.intro (ins fl ((1 + (i : Int) - 1)).toNat (1 + (i : Int))) (Exists.intro _ (Exists.intro _ ⟨rfl, same_set sm nf, (by rw [upd_same]; exact ins_map _ _ _), (by rw [ins_len, lf]), ins_perm pm⟩))
            · refine ⟨_, rfl, .inl ⟨rfl, _, SqL.of ef⟩, ?_⟩
              refine ⟨_, rfl, _, rfl, ?_⟩
              refine ⟨f, fl.map V.int, sp, .int (1 + (i : Int)), rfl, rfl, ef, ?_⟩
              refine ⟨small_n (by rw [List.length_map, lf]; omega), by omega, by omega, ?_⟩
              exact Exists.intro (ins fl (sp).toNat (1 + (i : Int))) (Exists.intro _ (Exists.intro _ ⟨rfl, same_set sm nf, (by rw [upd_same]; exact ins_map _ _ _), (by rw [ins_len, lf]), ins_perm pm⟩))
          · refine iteF ?_
            refine ⟨_, rfl, .inl ⟨rfl, _, SqL.of ef⟩, ?_⟩
            refine ⟨_, rfl, _, rfl, ?_⟩
            refine ⟨f, fl.map V.int, sp, .int (1 + (i : Int)), rfl, rfl, ef, ?_⟩
            refine ⟨small_n (by rw [List.length_map, lf]; omega), by omega, by omega, ?_⟩
            exact Exists.intro (ins fl (sp).toNat (1 + (i : Int))) (Exists.intro _ (Exists.intro _ ⟨rfl, same_set sm nf, (by rw [upd_same]; exact ins_map _ _ _), (by rw [ins_len, lf]), ins_perm pm⟩))
    · rintro σ H' ⟨fl, x6, x7, rfl, sm, ef, lf, pm⟩
      refine ⟨_, rfl, f, _, rfl, SqL.of ef, fun p ob hd np => ?_⟩
      refine kY _ p fl (sm.trans (same_new np)) ⟨ob, hd, upd_same⟩ ⟨by omega, by omega, by rw [lf]; exact pm⟩

theorem getI {l : List Int} {j : Nat} (h : j < l.length) : (l.map V.int)[j]? = some (.int (l.getD j 0)) := by
  rw [List.getElem?_map, List.getElem?_eq_getElem h, List.getD_eq_getElem?_getD, List.getElem?_eq_getElem h]; rfl
theorem ixN_of {n i : Nat} (h : i < n) : ixN n (i : Int) = some i := by
  unfold ixN
  rw [if_pos (by omega), if_pos (by omega), Int.toNat_natCast]
def swp (l : List Int) (i : Nat) : List Int := (l.set i (l.getD (i + 1) 0)).set (i + 1) (l.getD i 0)
theorem swp_perm : ∀ (l : List Int) (i : Nat), i + 1 < l.length → (swp l i).Perm l
  | [], i, h => by cases h
  | [a], i, h => by simp at h
  | a :: b :: r, 0, h => List.Perm.swap a b r
  | a :: b :: r, i + 1, h => by
    have z := swp_perm (b :: r) i (by simpa using h)
    exact z.cons a
theorem swp_len (l : List Int) (i : Nat) : (swp l i).length = l.length := by unfold swp; rw [List.length_set, List.length_set]
theorem ok_law_updown (T : Txt K mg) : DefOk P w K mg base CX0 3 "_law_updown" ["_law_cell", "_law_at", "_law_most"] spLawOrder := by
  have D_law_order : DefOk P w K mg base CX0 2 "_law_order" ["_law_cell", "_law_at", "_law_most"] spLawOrder := ok_law_order T
  refine def_of T.d_law_updown T.g_law_updown (fun _ _ _ _ _ _ us hl => match us, hl with | [_, _, _], _ => rfl) fun fd F => ?_
  refine F.ok sc_law_updown (fun vs H Q E h => ?_) (fun cdv A outer s H vs Q E hr h => ?_)
  · obtain ⟨c, m, rfl, _⟩ := h; rfl
  · obtain ⟨c, m, rfl, m1, m40, kY⟩ := h
    refine ⟨_, PSs.nox (pss_cons (ps_set (i := 3) sc_law_updown.nd rfl (Or.inl rfl) (pe_callTy call_list_of (by rfl) T.n_list (by decide +kernel) (pa_cons (pe_callD D_law_order hr (by rfl) pass0 (pa_cons (pv 0) (pa_cons (pv 1) (pa_cons (pv 2) pa_nil)))) pa_nil)))
 (pss_cons (ps_for PassesOwn.never rfl (pi_range1 (by rfl) T.n_range (pa_cons (pe_op op_sub (pe_callB (lenK K) (by rfl) T.n_len boot_len (pa_cons (pv 3) pa_nil)) pe_int) pa_nil)) (pg_name (i := 4) sc_law_updown.nd rfl (Or.inl rfl)) (pss_one (ps_if (pt_cmpR op_ne (pe_cmpR op_lt (pe_ix (ixLK K) (pv 3) (pv 4) (fun _ _ => rfl)) (pe_ix (ixLK K) (pv 3) (pe_op op_add (pv 4) pe_int) (fun _ _ => rfl)) (nomark _)) (pe_cmpR op_eq (pe_op op_mod (pv 4) pe_int) pe_int (nomark _)) (nomark _)) (pss_one (ps_asg (pe_tup (pa_cons (pe_ix (ixLK K) (pv 3) (pe_op op_add (pv 4) pe_int) (fun _ _ => rfl)) (pa_cons (pe_ix (ixLK K) (pv 3) (pv 4) (fun _ _ => rfl)) pa_nil))) (pg_tup (by rfl) (pgs_cons (pg_sub (pv 3) (pv 4) set_list) (pgs_cons (pg_sub (pv 3) (pe_op op_add (pv 4) pe_int) set_list) pgs_nil))))) pss_nil)))
 (pss_one (ps_ret (pe_callTy (tupZK K) (by rfl) T.n_tuple (by decide +kernel) (pa_cons (pv 3) pa_nil)))))), ?_⟩
    refine ⟨_, rfl, _, rfl, _, rfl, c, m, rfl, m1, m40, fun H1 p l s1 hZ o => ?_⟩
    refine ⟨p, _, rfl, .inr hZ.sq, fun f nf => ?_⟩
    have hl : (l.map V.int).length = l.length := List.length_map ..
    have hfew := o.few
    have hpos := o.pos
    have sf := same_new (o := .lst (l.map V.int)) nf
    refine ⟨_, rfl, f, _, rfl, .inl (SqL.of upd_same), _, _, rfl, rfl, _, rfl, by omega, by omega, ?_⟩
    have en : ((((l.map V.int).length : Nat) : Int) - 1).toNat = l.length - 1 := by omega
    rw [en]
    refine for_range (lo := 0) (n := l.length - 1) (fun i σ H' => ∃ ls x4, σ = [some (.int c), some (.int 0), some (.int m), some (.ref f), x4] ∧ Same H1 H' ∧ H' f = some (.lst (ls.map V.int)) ∧ ls.length = l.length ∧ ls.Perm l)
      ⟨l, none, rfl, sf, upd_same, rfl, List.Perm.refl _⟩ ?_ ?_
    · rintro i σ H' hi ⟨ls, x4, rfl, sm, ef, lf, pm⟩
      rw [Int.zero_add]
      have j1 : i < ls.length := by omega
      have j2 : i + 1 < ls.length := by omega
      refine ⟨_, rfl, _, rfl, f, _, _, _, rfl, rfl, SqL.of ef, at_of (j := i) rfl (getI j1), _, rfl, _, rfl, _, _, rfl, rfl, f, _, _, _, rfl, rfl, SqL.of ef, at_of (j := i + 1) rfl (getI j2), _, _, rfl, rfl, ?_⟩
      refine ⟨_, rfl, _, _, rfl, rfl, (by show (0 : Int) < 2; decide), rfl, rfl, _, rfl, ite2 (fun c1 => ?_) (fun c1 => ?_)⟩
      · refine ⟨_, rfl, _, rfl, _, _, rfl, rfl, f, _, _, _, rfl, rfl, SqL.of ef, at_of (j := i + 1) rfl (getI j2), _, rfl, _, rfl, f, _, _, _, rfl, rfl, SqL.of ef, at_of (j := i) rfl (getI j1), ?_⟩
        refine ⟨sz 2, fun t nt => ?_⟩
        have st := same_new (o := .tup [.int (ls.getD (i + 1) 0), .int (ls.getD i 0)]) nt
        refine ⟨t, _, rfl, SqT.of upd_same, rfl, ?_⟩
        have ef2 := st _ _ ef
        refine ⟨_, _, rfl, _, rfl, _, rfl, f, _, _, i, rfl, rfl, ef2, ixN_of (by rw [List.length_map]; exact j1), ?_⟩
        refine ⟨_, _, rfl, _, rfl, _, rfl, _, _, rfl, rfl, f, _, _, i + 1, rfl, rfl, upd_same, ixN_of (by rw [List.length_set, List.length_map]; exact j2), rfl, ?_⟩
        refine ⟨swp ls i, _, rfl, ?_, ?_, by rw [swp_len, lf], (swp_perm ls i j2).trans pm⟩
        · exact same_set (same_set (sm.trans st) nf) nf
        · rw [upd_same]
          unfold swp
          rw [List.map_set, List.map_set]
      · exact ⟨ls, _, rfl, sm, ef, lf, pm⟩
    · rintro σ H' ⟨ls, x4, rfl, sm, ef, lf, pm⟩
      refine ⟨_, rfl, f, _, rfl, SqL.of ef, fun q ob hd nq => ?_⟩
      refine kY _ q ls ((s1.trans sm).trans (same_new nq)) ⟨ob, hd, upd_same⟩ ⟨by omega, by omega, ?_⟩
      rw [lf]
      exact pm.trans o.perm

theorem getD_of {l : List Int} {i : Nat} (h : i < l.length) : l[i]? = some (l.getD i 0) := by
  rw [List.getElem?_eq_getElem h, List.getD_eq_getElem?_getD, List.getElem?_eq_getElem h]; rfl
theorem overL_len (l : List Int) : (overL l).length = l.length := by unfold overL; rw [List.length_map]
theorem overL_at {l : List Int} {i : Nat} (h : i < l.length) : (overL l).getD i 0 = (l.length : Int) + 1 - l.getD i 0 := by
  have e : (overL l)[i]? = some ((l.length : Int) + 1 - l.getD i 0) := by
    unfold overL
    rw [List.getElem?_map, getD_of h]; rfl
  rw [List.getD_eq_getElem?_getD, e]; rfl
theorem over_over (l : List Int) : overL (overL l) = l := by
  have e : overL (overL l) = l.map fun x => (l.length : Int) + 1 - ((l.length : Int) + 1 - x) := by
    unfold overL
    rw [List.map_map, List.length_map]; rfl
  rw [e]
  have e2 : (fun x : Int => (l.length : Int) + 1 - ((l.length : Int) + 1 - x)) = id := by
    funext x
    show (l.length : Int) + 1 - ((l.length : Int) + 1 - x) = x
    omega
  rw [e2, List.map_id]
theorem rng_over (n : Nat) : ((rng n).map fun x => (n : Int) + 1 - x).Perm (rng n) := by
  refine (List.perm_ext_iff_of_nodup ?_ (rng_nodup n)).mpr fun x => ?_
  · unfold List.Nodup
    rw [List.pairwise_map]
    exact (rng_lt n).imp fun h e => by omega
  · rw [List.mem_map, mem_rng]
    constructor
    · rintro ⟨y, hy, rfl⟩
      have := mem_rng.mp hy
      omega
    · rintro ⟨h1, h2⟩
      exact ⟨(n : Int) + 1 - x, mem_rng.mpr (by omega), by omega⟩
theorem over_ord {l : List Int} (o : Ord l) : Ord (overL l) := by
  refine ⟨by rw [overL_len]; exact o.pos, by rw [overL_len]; exact o.few, ?_⟩
  rw [overL_len]
  unfold overL
  exact (o.perm.map _).trans (rng_over _)
theorem rev_ord {l : List Int} (o : Ord l) : Ord l.reverse := by
  refine ⟨by rw [List.length_reverse]; exact o.pos, by rw [List.length_reverse]; exact o.few, ?_⟩
  rw [List.length_reverse]
  exact (List.reverse_perm l).trans o.perm
theorem idxN_is {l : List Int} {x : Int} {i : Nat} (nd : l.Nodup) (h : l[i]? = some x) : idxN x l = i := by
  obtain ⟨i1, _⟩ := idxN_at (List.mem_of_getElem? h)
  have lt := (List.getElem?_eq_some_iff.mp i1).1
  exact (List.getElem?_inj lt nd).mp (i1.trans h.symm)
theorem conL_len (l : List Int) : (conL l).length = l.length := by unfold conL; rw [List.length_map, rng_len]
theorem conL_at {l : List Int} {i : Nat} (h : i < l.length) : (conL l)[i]? = some (((idxN (1 + (i : Int)) l : Nat) : Int) + 1) := by
  unfold conL
  rw [List.getElem?_map, rng_at h]; rfl
theorem con_ord {l : List Int} (o : Ord l) : Ord (conL l) := by
  refine ⟨by rw [conL_len]; exact o.pos, by rw [conL_len]; exact o.few, ?_⟩
  rw [conL_len]
  have e : (l.map fun x => ((idxN x l : Nat) : Int) + 1) = rng l.length := by
    refine List.ext_getElem? fun i => ?_
    rw [List.getElem?_map]
    by_cases h : i < l.length
    · rw [rng_at h, getD_of h]
      show some (((idxN (l.getD i 0) l : Nat) : Int) + 1) = _
      rw [idxN_is o.nodup (getD_of h)]
      exact congrArg some (by omega)
    · rw [List.getElem?_eq_none (by omega), List.getElem?_eq_none (by rw [rng_len]; omega)]; rfl
  have z := (o.perm.map fun x => ((idxN x l : Nat) : Int) + 1).symm
  rw [e] at z
  exact z
theorem con_con {l : List Int} (o : Ord l) : conL (conL l) = l := by
  have oc := con_ord o
  refine List.ext_getElem? fun i => ?_
  by_cases h : i < l.length
  · rw [conL_at (by rw [conL_len]; exact h), getD_of h]
    obtain ⟨x1, x2⟩ := o.mem.mp (List.mem_of_getElem? (getD_of h))
    generalize hx : l.getD i 0 = x at *
    have hp : (x - 1).toNat < l.length := by omega
    have e1 : (conL l)[(x - 1).toNat]? = some (1 + (i : Int)) := by
      rw [conL_at hp, show 1 + (((x - 1).toNat : Nat) : Int) = x by omega]
      have e2 : l[i]? = some x := by rw [getD_of h, hx]
      rw [idxN_is o.nodup e2]
      exact congrArg some (by omega)
    rw [idxN_is oc.nodup e1]
    exact congrArg some (by omega)
  · rw [List.getElem?_eq_none (by rw [conL_len, conL_len]; omega), List.getElem?_eq_none (by omega)]
theorem ne_next {l : List Int} (o : Ord l) {i : Nat} (h : i + 1 < l.length) : l.getD i 0 ≠ l.getD (i + 1) 0 := fun e => by
  have z : l[i]? = l[i + 1]? := by rw [getD_of (by omega), getD_of h, e]
  have := (List.getElem?_inj (by omega) o.nodup).mp z
  omega
theorem tb_at {l : List Int} {i : Nat} (h : i < l.length - 1) : (tb l)[i]? = some (decide (l.getD i 0 < l.getD (i + 1) 0)) := by
  unfold tb
  rw [List.getElem?_map, List.getElem?_range h]; rfl
theorem lt_not {a b : Int} (h : a ≠ b) : decide (b < a) = !decide (a < b) := by
  by_cases c : a < b
  · rw [decide_eq_true c, decide_eq_false (by omega)]; rfl
  · rw [decide_eq_false c, decide_eq_true (by omega)]; rfl
theorem tb_over {l : List Int} (o : Ord l) : tb (overL l) = (tb l).map not := by
  refine List.ext_getElem? fun i => ?_
  rw [List.getElem?_map]
  by_cases h : i < l.length - 1
  · rw [tb_at (by rw [overL_len]; exact h), tb_at h, overL_at (by omega), overL_at (by omega)]
    show some _ = some (!decide (l.getD i 0 < l.getD (i + 1) 0))
    rw [← lt_not (ne_next o (by omega))]
    refine congrArg some ?_
    rw [Bool.eq_iff_iff, decide_eq_true_eq, decide_eq_true_eq]
    omega
  · rw [List.getElem?_eq_none (by rw [tb_len, overL_len]; omega), List.getElem?_eq_none (by rw [tb_len]; omega)]; rfl
theorem rev_getD {l : List Int} {i : Nat} (h : i < l.length) : l.reverse.getD i 0 = l.getD (l.length - 1 - i) 0 := by
  rw [List.getD_eq_getElem?_getD, List.getD_eq_getElem?_getD, List.getElem?_reverse h]
theorem tb_rev {l : List Int} (o : Ord l) : tb l.reverse = (tb (overL l)).reverse := by
  rw [tb_over o]
  refine List.ext_getElem? fun i => ?_
  by_cases h : i < l.length - 1
  · rw [tb_at (by rw [List.length_reverse]; exact h), List.getElem?_reverse (by rw [List.length_map, tb_len]; exact h), List.getElem?_map, List.length_map, tb_len, tb_at (by omega), rev_getD (by omega), rev_getD (by omega)]
    show some _ = some (!decide (l.getD (l.length - 1 - 1 - i) 0 < l.getD (l.length - 1 - 1 - i + 1) 0))
    rw [← lt_not (ne_next o (by omega)), show l.length - 1 - 1 - i + 1 = l.length - 1 - i by omega, show l.length - 1 - (i + 1) = l.length - 1 - 1 - i by omega]
  · rw [List.getElem?_eq_none (by rw [tb_len, List.length_reverse]; omega), List.getElem?_eq_none (by rw [List.length_reverse, List.length_map, tb_len]; omega)]
theorem not_inj : ∀ {a b : List Bool}, a.map not = b.map not → a = b
  | [], [], _ => rfl
  | [], _ :: _, h => by cases h
  | _ :: _, [], h => by cases h
  | x :: xs, y :: ys, h => by
    obtain ⟨h1, h2⟩ := List.cons.inj h
    rw [not_inj h2, Bool.not_inj h1]
theorem ud_du {l : List Int} (o : Ord l) : decide (tb (overL l) = altB true ((overL l).length - 1)) = decide (tb l = altB false (l.length - 1)) := by
  rw [overL_len, tb_over o, show altB true (l.length - 1) = (altB false (l.length - 1)).map not from alt_not false _, Bool.eq_iff_iff, decide_eq_true_eq, decide_eq_true_eq]
  exact ⟨not_inj, fun h => by rw [h]⟩
/-- the order of a row that is an order led through a rising f -/
theorem ordL_f {l ms : List Int} (o : Ord l) {f : Int → Int} (hf : ∀ a b, a < b → f a < f b) (p : ms.Perm (l.map f)) (w : ms.Pairwise (· ≤ ·)) : ordL ms (l.map f) = l := by
  have lt : ((rng l.length).map f).Pairwise (· < ·) := by
    rw [List.pairwise_map]
    exact (rng_lt _).imp fun h => hf _ _ h
  have e : ms = (rng l.length).map f := (p.trans (o.perm.map f)).eq_of_pairwise (fun a b _ _ h1 h2 => by omega) w (lt.imp fun h => by omega)
  have nd : ((rng l.length).map f).Nodup := lt.imp fun h e => by omega
  unfold ordL
  rw [e, List.map_map]
  refine List.ext_getElem? fun i => ?_
  rw [List.getElem?_map]
  by_cases h : i < l.length
  · rw [getD_of h]
    obtain ⟨x1, x2⟩ := o.mem.mp (List.mem_of_getElem? (getD_of h))
    generalize l.getD i 0 = x at *
    show some (((idxN (f x) ((rng l.length).map f) : Nat) : Int) + 1) = some x
    have e1 : ((rng l.length).map f)[(x - 1).toNat]? = some (f x) := by
      rw [List.getElem?_map, rng_at (by omega), show 1 + (((x - 1).toNat : Nat) : Int) = x by omega]; rfl
    rw [idxN_is nd e1]
    exact congrArg some (by omega)
  · rw [List.getElem?_eq_none (by omega)]; rfl
theorem nodup_f {l : List Int} (o : Ord l) {f : Int → Int} (hf : ∀ a b, a < b → f a < f b) : (l.map f).Nodup := by
  have lt : ((rng l.length).map f).Pairwise (· < ·) := by
    rw [List.pairwise_map]
    exact (rng_lt _).imp fun h => hf _ _ h
  have nd : ((rng l.length).map f).Nodup := lt.imp fun h e => by omega
  exact ((o.perm.map f).symm).nodup nd
theorem wo_rng {n : Nat} {b : Int} (h1 : 1 ≤ b) (h2 : b ≤ n) : (woL b (rng n)).Perm (rng (n - 1)) := by
  have lt : (woL b (rng n)).Pairwise (· < ·) := by
    unfold woL
    rw [List.pairwise_map]
    refine List.Pairwise.imp_of_mem ?_ ((rng_lt n).filter _)
    intro x y hx hy h
    have nx := (List.mem_filter.mp hx).2
    have ny := (List.mem_filter.mp hy).2
    have nx := bne_iff_ne.mp nx
    have ny := bne_iff_ne.mp ny
    split <;> split <;> omega
  refine (List.perm_ext_iff_of_nodup (lt.imp fun h e => by omega) (rng_nodup _)).mpr fun x => ?_
  unfold woL
  rw [List.mem_map, mem_rng]
  constructor
  · rintro ⟨y, hy, rfl⟩
    obtain ⟨hy1, hy2⟩ := List.mem_filter.mp hy
    have := mem_rng.mp hy1
    have := bne_iff_ne.mp hy2
    split <;> omega
  · rintro ⟨x1, x2⟩
    by_cases c : x < b
    · exact ⟨x, List.mem_filter.mpr ⟨mem_rng.mpr (by omega), bne_iff_ne.mpr (by omega)⟩, by rw [if_neg (by omega)]⟩
    · exact ⟨x + 1, List.mem_filter.mpr ⟨mem_rng.mpr (by omega), bne_iff_ne.mpr (by omega)⟩, by rw [if_pos (by omega)]; omega⟩
theorem wo_ord {l : List Int} (o : Ord l) {b : Int} (hb : b ∈ l) (h2 : 2 ≤ l.length) : Ord (woL b l) ∧ (woL b l).length = l.length - 1 := by
  obtain ⟨b1, b2⟩ := o.mem.mp hb
  have p : (woL b l).Perm (rng (l.length - 1)) := by
    refine List.Perm.trans ?_ (wo_rng b1 b2)
    unfold woL
    exact (o.perm.filter _).map _
  have e : (woL b l).length = l.length - 1 := by rw [p.length_eq, rng_len]
  have := o.few
  exact ⟨⟨by omega, by omega, by rw [e]; exact p⟩, e⟩

def tupD (l : List Int) : PyData := .tuple (l.map PyData.int)
theorem dp_tup {K : PySem.W.Frag} {H : Hp} {a : Addr} {l : List Int} (h : SqT K H a (l.map V.int)) : Dp K H (.ref a) (tupD l) := .tup h (dp_ints l)
theorem lay_tup (l : List Int) : PyData.canLay0 (tupD l) = true := lay_ints l
theorem shaped_tup (l : List Int) : SeqAt.shaped (tupD l) = true := by
  show ((PyData.canLayAll0 (l.map PyData.int)) && decide (PyData.depthAll (l.map PyData.int) + 1 ≤ 64)) = true
  rw [lay_ints, depth_ints]; rfl
theorem eqv_tup (l : List Int) : PyData.eqv (tupD l) (tupD l) = true := SeqAt.eqv_refl _ (lay_tup l)
def threeD (l : List Int) : PyData := .list [tupD l, tupD l, tupD l]
theorem lay_three (l : List Int) : PyData.canLay0 (threeD l) = true := by
  show (PyData.canLay0 (tupD l) && (PyData.canLay0 (tupD l) && (PyData.canLay0 (tupD l) && true))) = true
  rw [lay_tup]; rfl
theorem shaped_three (l : List Int) : SeqAt.shaped (threeD l) = true := by
  have d : PyData.depth (tupD l) = 1 := by
    show PyData.depthAll (l.map PyData.int) + 1 = 1
    rw [depth_ints]
  show (PyData.canLay0 (threeD l) && decide (max (PyData.depth (tupD l)) (max (PyData.depth (tupD l)) (max (PyData.depth (tupD l)) 0)) + 1 ≤ 64)) = true
  rw [lay_three, d]; rfl
theorem eqv_three (l : List Int) : PyData.eqv (threeD l) (threeD l) = true := SeqAt.eqv_refl _ (lay_three l)
theorem dp_three {K : PySem.W.Frag} {H : Hp} {p a b c : Addr} {l : List Int} (e : SqL K H p [.ref a, .ref b, .ref c]) (ha : SqT K H a (l.map V.int)) (hb : SqT K H b (l.map V.int)) (hc : SqT K H c (l.map V.int)) : Dp K H (.ref p) (threeD l) :=
  .lst e (.cons (dp_tup ha) (.cons (dp_tup hb) (.cons (dp_tup hc) .nil)))
theorem len_ones : ∀ bs : List Bool, ((bs.map oneB).map (·.length)).sum = bs.length
  | [] => rfl
  | b :: bs => by
    rw [List.map_cons, List.map_cons, List.sum_cons, len_ones bs, List.length_cons]
    have e : (oneB b).length = 1 := by cases b <;> rfl
    rw [e]; omega
/-- the sign at a place of a text of turns -/
theorem sign_at {bs : List Bool} {i : Nat} {b : Bool} (h : bs[i]? = some b) : (textB bs).cps.toList[i]? = some (sgB b) := by
  unfold textB
  rw [List.getElem?_map, h]; rfl
theorem textB_len (bs : List Bool) : (textB bs).length = bs.length := by
  show (bs.map sgB).toArray.size = _
  rw [List.size_toArray, List.length_map]
theorem swap_sign (b : Bool) : decide (V.str ⟨#[sgB b]⟩ = V.str "u") = b := by cases b <;> decide
theorem ud_at (b : Bool) : atI ("ud" : Str).cps.toList (if b = true then 1 else 0) = some (sgB (!b)) := by cases b <;> rfl
theorem one_eq (b : Bool) : (⟨#[sgB b]⟩ : Str) = oneB b := by cases b <;> rfl
theorem textB_rev (bs : List Bool) : (⟨(textB bs).cps.toList.reverse.toArray⟩ : Str) = textB bs.reverse := by
  show (⟨(bs.map sgB).reverse.toArray⟩ : Str) = ⟨(bs.reverse.map sgB).toArray⟩
  rw [List.map_reverse]

def spLaw8 (K : PySem.W.Frag) : Sp := fun vs H Q _ => ∃ (a : Addr) (ns : List Int), vs = [.ref a] ∧ ns.length ≤ 63 ∧ SqL K H a (ns.map V.int) ∧ TG (Ps K) H ∧ ∀ H', Q (.bl true) H'
theorem ok_law (T : Txt K mg) (B : TBs K mg base) {fd : FuncData} (F : FnT K "law" S_law fd) : FnOk P w K mg base CX0 12 (He.ga K "law") fd ["_law_script"] (spLaw8 K) := by
  have D_law_cell_at : DefOk P w K mg base CX0 1 "_law_cell_at" ["_law_script", "_law_k"] (spCellAt K) := ok_law_cell_at T
  have D_law_draw : DefOk P w K mg base CX0 1 "_law_draw" ["_law_cell", "_law_k", "_law_bound"] spDraw := ok_law_draw T
  have D_law_order : DefOk P w K mg base CX0 2 "_law_order" ["_law_cell", "_law_at", "_law_most"] spLawOrder := ok_law_order T
  have D_law_updown : DefOk P w K mg base CX0 3 "_law_updown" ["_law_cell", "_law_at", "_law_most"] spLawOrder := ok_law_updown T
  have D_turned_over : DefOk P w K mg base (L2.CX P w) 5 "turned_over" ["order"] (spTupZ K overL) := ok_turned_over T B
  have D_backward : DefOk P w K mg base (L2.CX P w) 5 "backward" ["order"] (spTupB K List.reverse) := ok_backward T B
  have D_contrary : DefOk P w K mg base (L2.CX P w) 5 "contrary" ["order"] (spCon K) := ok_contrary T B
  have D_turns : DefOk P w K mg base (L2.CX P w) 5 "turns" ["order"] (spTurns K) := ok_turns T B
  have D_is_updown : DefOk P w K mg base CX0 7 "is_updown" ["thing"] (spUD K true) := ok_is_updown T B
  have D_is_downup : DefOk P w K mg base CX0 7 "is_downup" ["thing"] (spUD K false) := ok_is_downup T B
  have D_order_of : DefOk P w K mg base (L2.CX P w) 5 "order_of" ["row"] (spOrdOf K) := ok_order_of T B
  have D_is_order : DefOk P w K mg base CX0 3 "is_order" ["thing"] (spOrdV K (.bl true)) := ok_is_order T B
  have D_without : DefOk P w K mg base (L2.CX P w) 5 "without" ["order", "number"] (spWo K) := ok_without T B
  refine F.ok sc_law (fun vs H Q E h => ?_) (fun cdv A outer s H vs Q E hr h => ?_)
  · obtain ⟨a, ns, rfl, _⟩ := h; rfl
  · obtain ⟨a, ns, rfl, hl, hS, tg0, q⟩ := h
    refine ⟨_, PSs.nox (pss_cons (ps_for PassesOwn.never rfl (pi_range1 (by rfl) T.n_range (pa_cons (pe_callB (call_max2 rfl) (by rfl) T.n_max (by decide +kernel) (pa_cons pe_int (pa_cons (pe_callB (call_min2 rfl) (by rfl) T.n_min (by decide +kernel) (pa_cons (pe_callB (lenK K) (by rfl) T.n_len boot_len (pa_cons (pv 0) pa_nil)) (pa_cons pe_int pa_nil))) pa_nil))) pa_nil)) (pg_name (i := 1) sc_law.nd rfl (Or.inl rfl)) (pss_cons (ps_set (i := 2) sc_law.nd rfl (Or.inl rfl) (pe_callD D_law_cell_at hr (by rfl) pass0 (pa_cons (pv 0) (pa_cons (pv 1) pa_nil))))
 (pss_cons (ps_set (i := 3) sc_law.nd rfl (Or.inl rfl) (pe_ix (ixLK K) (pe_lst (pa_cons pe_int (pa_cons pe_int (pa_cons pe_int (pa_cons pe_int pa_nil))))) (pe_callD D_law_draw hr (by rfl) pass0 (pa_cons (pv 2) (pa_cons pe_int (pa_cons pe_int pa_nil)))) (fun _ _ => rfl)))
 (pss_one (ps_for PassesOwn.never rfl (pi_list (pe_lst (pa_cons (pe_callD D_law_order hr (by rfl) pass0 (pa_cons (pv 2) (pa_cons pe_int (pa_cons (pv 3) pa_nil)))) (pa_cons (pe_callD D_law_updown hr (by rfl) pass0 (pa_cons (pv 2) (pa_cons pe_int (pa_cons (pv 3) pa_nil)))) pa_nil)))) (pg_name (i := 4) sc_law.nd rfl (Or.inl rfl)) (pss_cons (ps_set (i := 5) sc_law.nd rfl (Or.inl rfl) (pe_callD D_turned_over hr (by rfl) passL (pa_cons (pv 4) pa_nil)))
 (pss_cons (ps_if (pt_cmpR (neDK K hr.units) (pe_lst (pa_cons (pe_callD D_turned_over hr (by rfl) passL (pa_cons (pv 5) pa_nil)) (pa_cons (pe_callD D_backward hr (by rfl) passL (pa_cons (pe_callD D_backward hr (by rfl) passL (pa_cons (pv 4) pa_nil)) pa_nil)) (pa_cons (pe_callD D_contrary hr (by rfl) passL (pa_cons (pe_callD D_contrary hr (by rfl) passL (pa_cons (pv 4) pa_nil)) pa_nil)) pa_nil)))) (pe_op op_rep (pe_lst (pa_cons (pv 4) pa_nil)) pe_int) (nomark _)) (pss_one (ps_ret pe_bl)) pss_nil)
 (pss_cons (ps_set (i := 6) sc_law.nd rfl (Or.inl rfl) (pe_callD D_turns hr (by rfl) passL (pa_cons (pv 4) pa_nil)))
 (pss_cons (ps_if (pt_cmpR op_ne (pe_callD D_turns hr (by rfl) passL (pa_cons (pv 5) pa_nil)) (pe_join pe_str (pe_lc (own := [("_law_one", 8)]) (g := gName 8) (tt := tYes) (by rfl) sc_law.nd (pi_str (pv 6)) (blkOk_by (own := [("_law_one", 8)]) (N := N_law) (sc := defScope S_law) (by decide +kernel)) (fun _ _ _ _ _ => (pg_name (i := 8) sc_law.nd rfl (Or.inl rfl))) (fun _ _ _ _ _ => pts_nil) (fun _ _ _ _ _ => (pe_ix ix_str pe_str (pe_callTy call_int1 (by rfl) T.n_int (by decide +kernel) (pa_cons (pe_cmpR op_eq (pv 8) pe_str (nomark _)) pa_nil)) (fun _ _ => rfl))))) (nomark _)) (pss_one (ps_ret pe_bl)) pss_nil)
 (pss_cons (ps_if (pt_cmpR op_ne (pe_callD D_turns hr (by rfl) passL (pa_cons (pe_callD D_backward hr (by rfl) passL (pa_cons (pv 4) pa_nil)) pa_nil)) (pe_revS (pe_callD D_turns hr (by rfl) passL (pa_cons (pv 5) pa_nil))) (nomark _)) (pss_one (ps_ret pe_bl)) pss_nil)
 (pss_cons (ps_if (PW.pt (pw_or (pt_cmpR op_ne (pe_callD D_is_updown hr (by rfl) pass0 (pa_cons (pv 5) pa_nil)) (pe_callD D_is_downup hr (by rfl) pass0 (pa_cons (pv 4) pa_nil)) (nomark _)) (pw_or (pt_cmpR (neDK K hr.units) (pe_callD D_order_of hr (by rfl) passL (pa_cons (pv 4) pa_nil)) (pv 4) (nomark _)) (pw_or1 (pt_not (pt_val (pe_callD D_is_order hr (by rfl) pass0 (pa_cons (pv 5) pa_nil)))))))) (pss_one (ps_ret pe_bl)) pss_nil)
 (pss_cons (ps_if (pt_cmpR (neDK K hr.units) (pe_callD D_order_of hr (by rfl) passL (pa_cons (pe_callTy (tupZK K) (by rfl) T.n_tuple (by decide +kernel) (pa_cons (pe_lc (own := [("_law_one", 8)]) (g := gName 8) (tt := tYes) (by rfl) sc_law.nd (pi_tup (pv 4)) (blkOk_by (own := [("_law_one", 8)]) (N := N_law) (sc := defScope S_law) (by decide +kernel)) (fun _ _ _ _ _ => (pg_name (i := 8) sc_law.nd rfl (Or.inl rfl))) (fun _ _ _ _ _ => pts_nil) (fun _ _ _ _ _ => (pe_op op_sub (pe_op op_mul pe_int (pv 8)) pe_int))) pa_nil)) pa_nil)) (pv 4) (nomark _)) (pss_one (ps_ret pe_bl)) pss_nil)
 (pss_one (ps_if (pt_cmpR op_gt (pe_callB (lenK K) (by rfl) T.n_len boot_len (pa_cons (pv 4) pa_nil)) pe_int (nomark _)) (pss_cons (ps_set (i := 7) sc_law.nd rfl (Or.inl rfl) (pe_callD D_without hr (by rfl) passL (pa_cons (pv 4) (pa_cons (pe_ix (ixTK K) (pv 4) (pe_callD D_law_draw hr (by rfl) pass0 (pa_cons (pv 2) (pa_cons pe_int (pa_cons (pe_callB (lenK K) (by rfl) T.n_len boot_len (pa_cons (pv 4) pa_nil)) pa_nil)))) (fun _ _ => rfl)) pa_nil))))
 (pss_one (ps_if (PW.pt (pw_or (pt_not (pt_val (pe_callD D_is_order hr (by rfl) pass0 (pa_cons (pv 7) pa_nil)))) (pw_or1 (pt_cmpR op_ne (pe_callB (lenK K) (by rfl) T.n_len boot_len (pa_cons (pv 7) pa_nil)) (pe_op op_sub (pe_callB (lenK K) (by rfl) T.n_len boot_len (pa_cons (pv 4) pa_nil)) pe_int) (nomark _))))) (pss_one (ps_ret pe_bl)) pss_nil))) pss_nil))))))))))))))
 (pss_one (ps_ret pe_bl))), ?_⟩
    refine ⟨_, rfl, a, _, rfl, .inl hS, _, _, rfl, _, _, rfl, _, rfl, ?_, ?_, ?_⟩
    · rw [List.length_map]; split <;> (try split) <;> omega
    · rw [List.length_map]; split <;> (try split) <;> omega
    refine for_range (lo := 0) (n := _) (fun i σ H' => (∃ x1 x2 x3 x4 x5 x6 x7 x8 : Option V, σ = [some (.ref a), x1, x2, x3, x4, x5, x6, x7, x8]) ∧ Go (Ps K) H H') ⟨⟨_, _, _, _, _, _, _, _, rfl⟩, Go.refl tg0⟩ ?_ ?_
    · rintro i σ H' hi ⟨⟨x1, x2, x3, x4, x5, x6, x7, x8, rfl⟩, g0⟩
      refine ⟨_, rfl, _, rfl, a, ns, i, ?_, ext_seq g0.ext hS, fun cv => ?_⟩
      · rw [Int.zero_add]; rfl
      refine ⟨sz 4, fun l4 nl4 => ?_⟩
      have s4 := same_new (o := .lst [.int 12, .int 12, .int 12, .int 40]) nl4
      refine ⟨_, rfl, cv, 3000, 4, rfl, by decide, by decide, by decide, by decide, fun r r0 r1 => ?_⟩
      have key : ∃ m : Int, 1 ≤ m ∧ m ≤ 40 ∧ atI ([.int 12, .int 12, .int 12, .int 40] : List V) r = some (.int m) := by
        rcases (show r = 0 ∨ r = 1 ∨ r = 2 ∨ r = 3 by omega) with rfl | rfl | rfl | rfl
        · exact ⟨12, by decide, by decide, rfl⟩
        · exact ⟨12, by decide, by decide, rfl⟩
        · exact ⟨12, by decide, by decide, rfl⟩
        · exact ⟨40, by decide, by decide, rfl⟩
      obtain ⟨m, m1, m40, hm⟩ := key
      refine ⟨l4, _, _, _, rfl, rfl, SqL.of upd_same, hm, ?_⟩
      refine ⟨_, rfl, _, rfl, cv, m, rfl, m1, m40, fun H1 p1 la s1 z1 o1 => ?_⟩
      refine ⟨_, rfl, _, rfl, cv, m, rfl, m1, m40, fun H2 p2 lb s2 z2 o2 => ⟨sz 2, fun lq nq => ?_⟩⟩
      have sq := same_new (o := .lst [.ref p1, .ref p2]) nq
      have gB := g0.same (((s4.trans s1).trans s2).trans sq)
      have zz : ∀ (i : Nat) (x : V), ([.ref p1, .ref p2] : List V)[i]? = some x → ∃ (p : Addr) (l : List Int), x = .ref p ∧ Zt (upd H2 lq (.lst [.ref p1, .ref p2])) p l ∧ Ord l := fun i x hx => by
        match i, hx with
        | 0, hx => cases hx; exact ⟨p1, la, rfl, z1.ext (Same.ext (s2.trans sq)), o1⟩
        | 1, hx => cases hx; exact ⟨p2, lb, rfl, z2.ext (Same.ext sq), o2⟩
      have eq : (upd H2 lq (.lst [.ref p1, .ref p2])) lq = some (.lst [.ref p1, .ref p2]) := upd_same
      generalize upd H2 lq (.lst [.ref p1, .ref p2]) = HB at *
      refine ⟨lq, rfl, ⟨_, SqL.of eq⟩, for_list (xs := [.ref p1, .ref p2]) (fun i σ H5 => (∃ x1 x3 x4 x5 x6 x7 x8 : Option V, σ = [some (.ref a), x1, some (.int cv), x3, x4, x5, x6, x7, x8]) ∧ Go (Ps K) HB H5) ⟨⟨_, _, _, _, _, _, _, rfl⟩, Go.refl gB.tab⟩ (fun i σ H5 _ ⟨_, e⟩ => ext_seq e.ext (SqL.of eq)) ?_ ?_⟩
      · rintro i x σ H5 hx ⟨⟨x1, x3, x4, x5, x6, x7, x8, rfl⟩, g5⟩
        obtain ⟨p, l, rfl, hZ, o⟩ := zz i x hx
        have Z5 := hZ.ext g5.ext
        have hn : (l.map V.int).length = l.length := List.length_map ..
        have hfew := o.few
        have hpos := o.pos
        -- over
        refine ⟨_, rfl, p, l, rfl, Z5.sq, o, g5.tab, fun Ha q1 ga zq => ?_⟩
        -- three that are the order again
        refine ⟨_, rfl, q1, overL l, rfl, zq.sq, over_ord o, ga.tab, fun Hb q2 gb w2 => ?_⟩
        rw [over_over] at w2
        have Zb := (Z5.ext ga.ext).ext gb.ext
        refine ⟨_, rfl, p, l, rfl, Zb.sq, o, gb.tab, fun Hc q3 gc w3 => ?_⟩
        refine ⟨q3, l.reverse, rfl, w3, rev_ord o, gc.tab, fun Hd q4 gd w4 => ?_⟩
        rw [List.reverse_reverse] at w4
        have Zd := (Zb.ext gc.ext).ext gd.ext
        refine ⟨_, rfl, p, l, rfl, Zd, o, gd.tab, fun He q5 ge w5 => ?_⟩
        refine ⟨q5, conL l, rfl, w5, con_ord o, ge.tab, fun Hf q6 gf w6 => ?_⟩
        rw [con_con o] at w6
        have Zf := (Zd.ext ge.ext).ext gf.ext
        refine ⟨sz 3, fun m3 n3 => ?_⟩
        have sm3 := same_new (o := .lst [.ref q2, .ref q4, .ref q6]) n3
        refine ⟨_, rfl, sz 1, fun m4 n4 => ?_⟩
        have sm4 := same_new (o := .lst [.ref p]) n4
        refine ⟨m4, 3, [.ref p], rfl, rfl, upd_same, by decide, by decide, sz 3, fun m5 n5 => ?_⟩
        have sm5 := same_new (o := .lst (List.replicate (3 : Int).toNat [V.ref p]).flatten) n5
        have s35 := (sm3.trans sm4).trans sm5
        have E6 := s35
        have k2 : SqT K Hf q2 (l.map V.int) := (((w2.ext gc.ext).ext gd.ext).ext ge.ext).ext gf.ext |>.sq
        have k4 : SqT K Hf q4 (l.map V.int) := ext_sqt gf.ext (ext_sqt ge.ext w4)
        refine ne_same (d := threeD l) (dp_three (SqL.of (sm5 _ _ (sm4 _ _ upd_same))) (ext_sqt (Same.ext s35) k2) (ext_sqt (Same.ext s35) k4) (ext_sqt (Same.ext s35) w6.sq)) (dp_three (SqL.of upd_same) (ext_sqt (Same.ext s35) Zf.sq) (ext_sqt (Same.ext s35) Zf.sq) (ext_sqt (Same.ext s35) Zf.sq)) (shaped_three l) (eqv_three l) ⟨false, rfl, iteF ?_⟩
        have gF := (((((ga.trans gb).trans gc).trans gd).trans ge).trans gf).same s35
        have qF := ((((zq.ext gb.ext).ext gc.ext).ext gd.ext).ext ge.ext).ext gf.ext
        have ZF := Zf.ext (Same.ext s35)
        have QF := qF.ext (Same.ext s35)
        generalize upd (upd (upd Hf m3 (.lst [.ref q2, .ref q4, .ref q6])) m4 (.lst [.ref p])) m5 (.lst (List.replicate (3 : Int).toNat [V.ref p]).flatten) = Hg at *
        -- the turns
        refine ⟨_, rfl, p, l, rfl, ZF.sq, o, gF.tab, fun Hh gh => ?_⟩
        refine ⟨_, rfl, q1, overL l, rfl, (QF.ext gh.ext).sq, over_ord o, gh.tab, fun Hi gi => ?_⟩
        refine ⟨⟨_, rfl⟩, _, rfl, _, rfl, fun D nD => ?_⟩
        refine lc_text (z := textB (tb l)) (fun j H3 => Same Hi H3 ∧ H3 D = some (.lst ((((tb l).take j).map fun b => oneB (!b)).map V.str))) ⟨same_new nD, upd_same⟩ ?_ ?_
        · rintro j c H3 hc ⟨s3, eD⟩
          have hj : j < (tb l).length := by
            rw [← textB_len]
            exact (Array.getElem?_eq_some_iff.mp hc).1
          have hb : (tb l)[j]? = some ((tb l)[j]) := List.getElem?_eq_getElem hj
          generalize (tb l)[j] = b at hb
          have ec : c = sgB b := by
            have z := sign_at hb
            rw [Array.getElem?_toList, hc] at z
            exact Option.some.inj z
          subst ec
          refine ⟨rfl, _, rfl, rfl, .inr ⟨_, rfl, ?_⟩⟩
          rw [swap_sign b]
          refine ⟨_, _, sgB (!b), rfl, rfl, by decide, ud_at b, _, eD, small_n ?_, same_set s3 nD, ?_⟩
          · rw [List.length_map, List.length_map, List.length_take, tb_len]; omega
          · rw [upd_same, List.take_add_one, hb, one_eq, List.map_append, List.map_append]; rfl
        rintro H3 ⟨s3, eD⟩
        have en3 : (textB (tb l)).cps.size = (tb l).length := textB_len _
        rw [en3, List.take_length] at eD
        refine ⟨"", D, ((tb l).map not).map oneB, rfl, rfl, .inl (SqL.of (by rw [eD]; simp only [List.map_map]; rfl)), ?_, ?_⟩
        · rw [len_ones, List.length_map, List.length_map, tb_len]
          show l.length - 1 + (l.length - 1) * 0 ≤ 16777216
          omega
        refine ⟨rfl, ?_⟩
        rw [tb_over o, join_signs, decide_eq_true rfl]
        refine ⟨false, rfl, iteF ?_⟩
        have gj := (gh.trans gi).same s3
        have Zj := ZF.ext gj.ext
        have Qj := QF.ext gj.ext
        -- from behind
        refine ⟨_, rfl, p, l, rfl, Zj.sq, o, gj.tab, fun Hk q7 gk w7 => ?_⟩
        refine ⟨q7, l.reverse, rfl, w7, rev_ord o, gk.tab, fun Hl gl => ?_⟩
        have Ql := (Qj.ext gk.ext).ext gl.ext
        have Zl := (Zj.ext gk.ext).ext gl.ext
        refine ⟨_, rfl, q1, overL l, rfl, Ql.sq, over_ord o, gl.tab, fun Hm gm => ?_⟩
        refine ⟨_, rfl, by rw [textB_len, tb_len, overL_len]; exact sz' (by omega), rfl, ?_⟩
        rw [textB_rev, tb_rev o, decide_eq_true rfl]
        refine ⟨false, rfl, iteF ?_⟩
        have Qm := Ql.ext gm.ext
        have Zm := Zl.ext gm.ext
        -- up-down and down-up
        refine ⟨_, rfl, q1, overL l, rfl, Qm.sq, over_ord o, gm.tab, fun Hn gn => ?_⟩
        refine ⟨_, rfl, p, l, rfl, (Zm.ext gn.ext).sq, o, gn.tab, fun Ho go => ?_⟩
        refine ⟨rfl, ?_⟩
        rw [ud_du o, decide_eq_true rfl]
        refine ⟨false, rfl, iteF ?_⟩
        have Zo := (Zm.ext gn.ext).ext go.ext
        have Qo := (Qm.ext gn.ext).ext go.ext
        refine ⟨_, rfl, p, l, rfl, Zo.sq, hpos, hfew, o.nodup, go.tab, fun Hp q8 ms pm pw gp w8 => ?_⟩
        have e8 : ordL ms l = l := by
          have z := ordL_f o (f := fun x => x) (fun a b h => h) (by rw [List.map_id']; exact pm) pw
          rw [List.map_id'] at z
          exact z
        rw [e8] at w8
        have Zp := Zo.ext gp.ext
        have Qp := Qo.ext gp.ext
        refine ⟨_, rfl, ne_same (d := tupD l) (dp_tup w8.sq) (dp_tup Zp.sq) (shaped_tup l) (eqv_tup l) ⟨false, rfl, iteF ?_⟩⟩
        refine ⟨_, rfl, q1, overL l, rfl, Qp.sq, over_ord o, gp.tab, fun Hq gq => ⟨_, rfl, iteF ?_⟩⟩
        have Zq := Zp.ext gq.ext
        -- a row led through a rising rule
        refine ⟨_, rfl, p, rfl, ⟨_, Zq.sq⟩, fun D2 nD2 => ?_⟩
        refine lc_tup (K := K) (xs := l.map V.int) (fun j H3 => Same Hq H3 ∧ H3 D2 = some (.lst (((l.take j).map fun x => 3 * x - 50).map V.int))) ⟨same_new nD2, upd_same⟩ (fun j H3 _ ⟨s3, _⟩ => (Zq.ext (Same.ext s3)).sq) ?_ ?_
        · rintro j x H3 hx ⟨s3, eD⟩
          obtain ⟨z, hz, rfl⟩ := get_ints hx
          refine ⟨rfl, _, rfl, _, _, rfl, rfl, .inl ⟨by decide, by decide⟩, _, _, rfl, rfl, _, eD, small_n (by rw [List.length_map, List.length_map, List.length_take]; omega), same_set s3 nD2, ?_⟩
          rw [upd_same, List.take_add_one, hz, List.map_append, List.map_append]; rfl
        rintro H3 ⟨s3, eD⟩
        rw [hn, List.take_length] at eD
        refine ⟨D2, _, rfl, SqL.of eD, fun t9 ob9 d9 n9 => ?_⟩
        have s9 := s3.trans (same_new (o := .frz ob9 (.tup ((l.map fun x => 3 * x - 50).map V.int))) n9)
        have g9 := gq.same s9
        have Z9 := Zq.ext (Same.ext s9)
        have hf : ∀ x y : Int, x < y → 3 * x - 50 < 3 * y - 50 := fun x y h => by omega
        refine ⟨t9, l.map fun x => 3 * x - 50, rfl, Zt.sq ⟨ob9, d9, upd_same⟩, by rw [List.length_map]; exact hpos, by rw [List.length_map]; exact hfew, nodup_f o hf, g9.tab, fun Hr q9 ms2 pm2 pw2 gr w9 => ?_⟩
        rw [ordL_f o hf pm2 pw2] at w9
        have Zr := Z9.ext gr.ext
        refine ⟨_, rfl, ne_same (d := tupD l) (dp_tup w9.sq) (dp_tup Zr.sq) (shaped_tup l) (eqv_tup l) ⟨false, rfl, iteF ?_⟩⟩
        have gall : Go (Ps K) HB Hr := g5.trans (gF.trans (gj.trans (gk.trans (gl.trans (gm.trans (gn.trans (go.trans (gp.trans (g9.trans gr)))))))))
        -- a number out
        refine ⟨_, rfl, p, _, rfl, .inr Zr.sq, _, _, rfl, rfl, _, rfl, ?_⟩
        rw [hn]
        refine ite2 (fun c => ?_) (fun c => ?_)
        · have l2 : 2 ≤ l.length := by
            have := of_decide_eq_true c
            omega
          refine ⟨_, rfl, _, rfl, _, rfl, _, rfl, p, _, rfl, .inr Zr.sq, cv, 3001, ((l.map V.int).length : Int), rfl, by decide, by decide, by rw [hn]; omega, by rw [hn]; omega, fun d d0 d1 => ?_⟩
          obtain ⟨j, rfl⟩ : ∃ j : Nat, d = (j : Int) := ⟨d.toNat, by omega⟩
          have hj : j < l.length := by rw [hn] at d1; omega
          refine ⟨p, _, _, _, rfl, rfl, Zr.sq, at_of (j := j) rfl (getI hj), ?_⟩
          have hmem : l.getD j 0 ∈ l := List.mem_of_getElem? (getD_of hj)
          obtain ⟨wo, wl⟩ := wo_ord o hmem l2
          refine ⟨p, l, l.getD j 0, rfl, Zr.sq, o, hmem, l2, gr.tab, fun Hs q10 gs w10 => ?_⟩
          refine ⟨_, rfl, q10, woL (l.getD j 0) l, rfl, w10.sq, wo, gs.tab, fun Hu gu => ⟨_, rfl, iteF ?_⟩⟩
          refine ⟨_, rfl, q10, _, rfl, .inr (w10.ext gu.ext).sq, _, rfl, p, _, rfl, .inr ((Zr.ext gs.ext).ext gu.ext).sq, _, _, rfl, rfl, rfl, ?_⟩
          have ew : V.int (((woL (l.getD j 0) l).map V.int).length : Int) = V.int (((l.map V.int).length : Int) - 1) := by
            rw [List.length_map, hn, wl]
            exact congrArg V.int (by omega)
          rw [ew, decide_eq_true rfl]
          refine ⟨false, rfl, iteF ?_⟩
          exact ⟨⟨_, _, _, _, _, _, _, rfl⟩, gall.trans (gs.trans gu)⟩
        · exact ⟨⟨_, _, _, _, _, _, _, rfl⟩, gall⟩
      · rintro σ H5 ⟨⟨x1, x3, x4, x5, x6, x7, x8, rfl⟩, g5⟩
        exact ⟨⟨_, _, _, _, _, _, _, _, rfl⟩, gB.trans g5⟩
    · rintro σ H' ⟨⟨x1, x2, x3, x4, x5, x6, x7, x8, rfl⟩, g0⟩
      exact q _
end
def D_is_whole : He.DefD := ⟨("is_whole", none), "is_whole", "is_whole", defArgs S_is_whole, defBody S_is_whole, defScope S_is_whole, [], []⟩
def D_need_number : He.DefD := ⟨("need_number", none), "need_number", "need_number", defArgs S_need_number, defBody S_need_number, defScope S_need_number, [], []⟩
def D_is_whole_tuple : He.DefD := ⟨("is_whole_tuple", none), "is_whole_tuple", "is_whole_tuple", defArgs S_is_whole_tuple, defBody S_is_whole_tuple, defScope S_is_whole_tuple, [], []⟩
def D_is_order : He.DefD := ⟨("is_order", none), "is_order", "is_order", defArgs S_is_order, defBody S_is_order, defScope S_is_order, [], []⟩
def D_is_row : He.DefD := ⟨("is_row", none), "is_row", "is_row", defArgs S_is_row, defBody S_is_row, defScope S_is_row, [], []⟩
def D_need_order : He.DefD := ⟨("need_order", none), "need_order", "need_order", defArgs S_need_order, defBody S_need_order, defScope S_need_order, [], []⟩
def D_need_row : He.DefD := ⟨("need_row", none), "need_row", "need_row", defArgs S_need_row, defBody S_need_row, defScope S_need_row, [], []⟩
def D_turns : He.DefD := ⟨("turns", none), "turns", "turns", defArgs S_turns, defBody S_turns, defScope S_turns, [], []⟩
def D_goes_by_turns : He.DefD := ⟨("goes_by_turns", none), "goes_by_turns", "goes_by_turns", defArgs S_goes_by_turns, defBody S_goes_by_turns, defScope S_goes_by_turns, [], []⟩
def D_is_updown : He.DefD := ⟨("is_updown", none), "is_updown", "is_updown", defArgs S_is_updown, defBody S_is_updown, defScope S_is_updown, [], []⟩
def D_is_downup : He.DefD := ⟨("is_downup", none), "is_downup", "is_downup", defArgs S_is_downup, defBody S_is_downup, defScope S_is_downup, [], []⟩
def D_turned_over : He.DefD := ⟨("turned_over", none), "turned_over", "turned_over", defArgs S_turned_over, defBody S_turned_over, defScope S_turned_over, [], []⟩
def D_backward : He.DefD := ⟨("backward", none), "backward", "backward", defArgs S_backward, defBody S_backward, defScope S_backward, [], []⟩
def D_contrary : He.DefD := ⟨("contrary", none), "contrary", "contrary", defArgs S_contrary, defBody S_contrary, defScope S_contrary, [], []⟩
def D_order_of : He.DefD := ⟨("order_of", none), "order_of", "order_of", defArgs S_order_of, defBody S_order_of, defScope S_order_of, [], []⟩
def D_without : He.DefD := ⟨("without", none), "without", "without", defArgs S_without, defBody S_without, defScope S_without, [], []⟩
def D_law_cell_at : He.DefD := ⟨("_law_cell_at", none), "_law_cell_at", "_law_cell_at", defArgs S_law_cell_at, defBody S_law_cell_at, defScope S_law_cell_at, [], []⟩
def D_law_draw : He.DefD := ⟨("_law_draw", none), "_law_draw", "_law_draw", defArgs S_law_draw, defBody S_law_draw, defScope S_law_draw, [], []⟩
def D_law_order : He.DefD := ⟨("_law_order", none), "_law_order", "_law_order", defArgs S_law_order, defBody S_law_order, defScope S_law_order, [], []⟩
def D_law_updown : He.DefD := ⟨("_law_updown", none), "_law_updown", "_law_updown", defArgs S_law_updown, defBody S_law_updown, defScope S_law_updown, [], []⟩
def D_law : He.DefD := ⟨("law", none), "law", "law", defArgs S_law, defBody S_law, defScope S_law, [], []⟩
def fn : List He.DefD := [D_is_whole, D_need_number, D_is_whole_tuple, D_is_order, D_is_row, D_need_order, D_need_row, D_turns, D_goes_by_turns, D_is_updown, D_is_downup, D_turned_over, D_backward, D_contrary, D_order_of, D_without, D_law_cell_at, D_law_draw, D_law_order, D_law_updown, D_law]
def fa : List He.Fa := [.glo "is_whole", .glo "need_number", .glo "is_whole_tuple", .glo "is_order", .glo "is_row", .glo "need_order", .glo "need_row", .glo "turns", .glo "goes_by_turns", .glo "is_updown", .glo "is_downup", .glo "turned_over", .glo "backward", .glo "contrary", .glo "order_of", .glo "without", .glo "_law_cell_at", .glo "_law_draw", .glo "_law_order", .glo "_law_updown", .glo "law", .free "isinstance", .free "int", .free "bool", .free "len", .free "range", .free "list", .free "tuple", .free "all", .free "sorted", .free "set", .free "zip", .free "max", .free "min", .free "ValueError", .int "MOST" 40, .glo "TurnError", .glo "NoOrder", .glo "NoNumber", .glo "NoRow", .exc "NoOrder", .exc "NoNumber", .exc "NoRow"]
def ex (_ : PySem.W.Frag) : Bool := true
def tf : List He.Defn := [("is_whole_tuple", none), ("turns", none), ("turned_over", none), ("contrary", none), ("order_of", none), ("without", none)]
theorem txt_of {w : World} {h : Heap} {K : PySem.W.Frag} {mg : Str → Option Value} (X : K.In h) (G : h.Ns mainGlobals mg) (c : He.SaysX fa fn [] tf ex w h K) : Txt K mg :=
  { d_is_whole := c.t.d.def_ 0 (d := D_is_whole) rfl, g_is_whole := He.glo_ok X G (c.t.d.fact 0 (f := .glo "is_whole") rfl),
    d_need_number := c.t.d.def_ 1 (d := D_need_number) rfl, g_need_number := He.glo_ok X G (c.t.d.fact 1 (f := .glo "need_number") rfl),
    d_is_whole_tuple := c.t.d.def_ 2 (d := D_is_whole_tuple) rfl, g_is_whole_tuple := He.glo_ok X G (c.t.d.fact 2 (f := .glo "is_whole_tuple") rfl),
    d_is_order := c.t.d.def_ 3 (d := D_is_order) rfl, g_is_order := He.glo_ok X G (c.t.d.fact 3 (f := .glo "is_order") rfl),
    d_is_row := c.t.d.def_ 4 (d := D_is_row) rfl, g_is_row := He.glo_ok X G (c.t.d.fact 4 (f := .glo "is_row") rfl),
    d_need_order := c.t.d.def_ 5 (d := D_need_order) rfl, g_need_order := He.glo_ok X G (c.t.d.fact 5 (f := .glo "need_order") rfl),
    d_need_row := c.t.d.def_ 6 (d := D_need_row) rfl, g_need_row := He.glo_ok X G (c.t.d.fact 6 (f := .glo "need_row") rfl),
    d_turns := c.t.d.def_ 7 (d := D_turns) rfl, g_turns := He.glo_ok X G (c.t.d.fact 7 (f := .glo "turns") rfl),
    d_goes_by_turns := c.t.d.def_ 8 (d := D_goes_by_turns) rfl, g_goes_by_turns := He.glo_ok X G (c.t.d.fact 8 (f := .glo "goes_by_turns") rfl),
    d_is_updown := c.t.d.def_ 9 (d := D_is_updown) rfl, g_is_updown := He.glo_ok X G (c.t.d.fact 9 (f := .glo "is_updown") rfl),
    d_is_downup := c.t.d.def_ 10 (d := D_is_downup) rfl, g_is_downup := He.glo_ok X G (c.t.d.fact 10 (f := .glo "is_downup") rfl),
    d_turned_over := c.t.d.def_ 11 (d := D_turned_over) rfl, g_turned_over := He.glo_ok X G (c.t.d.fact 11 (f := .glo "turned_over") rfl),
    d_backward := c.t.d.def_ 12 (d := D_backward) rfl, g_backward := He.glo_ok X G (c.t.d.fact 12 (f := .glo "backward") rfl),
    d_contrary := c.t.d.def_ 13 (d := D_contrary) rfl, g_contrary := He.glo_ok X G (c.t.d.fact 13 (f := .glo "contrary") rfl),
    d_order_of := c.t.d.def_ 14 (d := D_order_of) rfl, g_order_of := He.glo_ok X G (c.t.d.fact 14 (f := .glo "order_of") rfl),
    d_without := c.t.d.def_ 15 (d := D_without) rfl, g_without := He.glo_ok X G (c.t.d.fact 15 (f := .glo "without") rfl),
    d_law_cell_at := c.t.d.def_ 16 (d := D_law_cell_at) rfl, g_law_cell_at := He.glo_ok X G (c.t.d.fact 16 (f := .glo "_law_cell_at") rfl),
    d_law_draw := c.t.d.def_ 17 (d := D_law_draw) rfl, g_law_draw := He.glo_ok X G (c.t.d.fact 17 (f := .glo "_law_draw") rfl),
    d_law_order := c.t.d.def_ 18 (d := D_law_order) rfl, g_law_order := He.glo_ok X G (c.t.d.fact 18 (f := .glo "_law_order") rfl),
    d_law_updown := c.t.d.def_ 19 (d := D_law_updown) rfl, g_law_updown := He.glo_ok X G (c.t.d.fact 19 (f := .glo "_law_updown") rfl),
    d_law := c.t.d.def_ 20 (d := D_law) rfl, g_law := He.glo_ok X G (c.t.d.fact 20 (f := .glo "law") rfl),
    n_isinstance := He.free_ok X G (c.t.d.fact 21 (f := .free "isinstance") rfl),
    n_int := He.free_ok X G (c.t.d.fact 22 (f := .free "int") rfl),
    n_bool := He.free_ok X G (c.t.d.fact 23 (f := .free "bool") rfl),
    n_len := He.free_ok X G (c.t.d.fact 24 (f := .free "len") rfl),
    n_range := He.free_ok X G (c.t.d.fact 25 (f := .free "range") rfl),
    n_list := He.free_ok X G (c.t.d.fact 26 (f := .free "list") rfl),
    n_tuple := He.free_ok X G (c.t.d.fact 27 (f := .free "tuple") rfl),
    n_all := He.free_ok X G (c.t.d.fact 28 (f := .free "all") rfl),
    n_sorted := He.free_ok X G (c.t.d.fact 29 (f := .free "sorted") rfl),
    n_set := He.free_ok X G (c.t.d.fact 30 (f := .free "set") rfl),
    n_zip := He.free_ok X G (c.t.d.fact 31 (f := .free "zip") rfl),
    n_max := He.free_ok X G (c.t.d.fact 32 (f := .free "max") rfl),
    n_min := He.free_ok X G (c.t.d.fact 33 (f := .free "min") rfl),
    n_ValueError := He.free_ok X G (c.t.d.fact 34 (f := .free "ValueError") rfl),
    c_MOST := He.int_ok X G (c.t.d.fact 35 (f := .int "MOST" 40) rfl),
    g_TurnError := He.glo_ok X G (c.t.d.fact 36 (f := .glo "TurnError") rfl),
    g_NoOrder := He.glo_ok X G (c.t.d.fact 37 (f := .glo "NoOrder") rfl),
    g_NoNumber := He.glo_ok X G (c.t.d.fact 38 (f := .glo "NoNumber") rfl),
    g_NoRow := He.glo_ok X G (c.t.d.fact 39 (f := .glo "NoRow") rfl),
    x_NoOrder := (He.exc_ok (c.t.d.fact 40 (f := .exc "NoOrder") rfl)).1, k_NoOrder := (He.exc_ok (c.t.d.fact 40 (f := .exc "NoOrder") rfl)).2.1, b_NoOrder := (He.exc_ok (c.t.d.fact 40 (f := .exc "NoOrder") rfl)).2.2.1, t_NoOrder := (He.exc_ok (c.t.d.fact 40 (f := .exc "NoOrder") rfl)).2.2.2,
    x_NoNumber := (He.exc_ok (c.t.d.fact 41 (f := .exc "NoNumber") rfl)).1, k_NoNumber := (He.exc_ok (c.t.d.fact 41 (f := .exc "NoNumber") rfl)).2.1, b_NoNumber := (He.exc_ok (c.t.d.fact 41 (f := .exc "NoNumber") rfl)).2.2.1, t_NoNumber := (He.exc_ok (c.t.d.fact 41 (f := .exc "NoNumber") rfl)).2.2.2,
    x_NoRow := (He.exc_ok (c.t.d.fact 42 (f := .exc "NoRow") rfl)).1, k_NoRow := (He.exc_ok (c.t.d.fact 42 (f := .exc "NoRow") rfl)).2.1, b_NoRow := (He.exc_ok (c.t.d.fact 42 (f := .exc "NoRow") rfl)).2.2.1, t_NoRow := (He.exc_ok (c.t.d.fact 42 (f := .exc "NoRow") rfl)).2.2.2 }
abbrev R : PySem.W.OpenRow := PySem.W.OpenLaw.row PySem.Challenge.rw_upanddowns_k08_whole_orders
abbrev hk : PySem.W.Hook := He.hookX 4 fa fn [] tf ex
def ob (s : PySem.W.SharedT) : He.AlX := He.obsX 4 fa fn [] tf ex (HandSHeadRun.getT s)
theorem ob_eq (s : PySem.W.SharedT) : ob s = hk.obs s.abs := He.obsX_eq (HandSHeadRun.getT_eq s)
def loose : List PySem.Str := (["TurnError", "NoOrder", "NoNumber", "NoRow", "is_whole", "need_number", "is_whole_tuple", "is_order", "is_row", "need_order", "need_row", "turns", "goes_by_turns", "is_updown", "is_downup", "turned_over", "backward", "contrary", "order_of", "without", "_law_cell_at", "_law_draw", "_law_order", "_law_updown", "MOST"] : List PySem.Str)
theorem run (w : World) : HandSHeadRun.RunEq R (PySem.W.view R.prog [29]) hk ob 4000 loose w := by
  intro os
  kernel_rfl
theorem law_at {w : World} {h : Heap} {K : PySem.W.Frag} {mg : Str → Option Value} {fa1 : Addr} (X : K.In h) (G : h.Ns mainGlobals mg) (hfa : mg "law" = some (.ref fa1)) (c : He.SaysX fa fn [] tf ex w h K) : LamX.LawAtS PySem.Challenge.rw_upanddowns_k08_whole_orders w K CX0 12 63 "_law_script" mg fa1 h := by
  have T := txt_of X G c
  obtain ⟨fd, F⟩ := T.d_law
  have e := hfa.symm.trans T.g_law
  cases e
  have all : ∀ p ∈ tf.map (He.cT K), ∃ d ∈ tf, He.cT K d = p := fun p hp => List.mem_map.mp hp
  refine ⟨fd, tf.map (He.cT K), spLaw8 K, fun p hp => ?_, fun p hp => ?_, fun p hp => ?_, fun s u => F.bindsA (ps := ["_law_script"]) (fun _ _ _ _ _ _ us hl => match us, hl with | [_], _ => rfl) s [u] rfl, fun H a ns hl _ hT hS => ⟨a, ns, rfl, hl, hS, fun Q hQ => ?_, fun _ => rfl⟩, fun base _ _ TB => ok_law T ⟨TB _ (List.mem_map.mpr ⟨("is_whole_tuple", none), by decide, rfl⟩), TB _ (List.mem_map.mpr ⟨("turns", none), by decide, rfl⟩), TB _ (List.mem_map.mpr ⟨("turned_over", none), by decide, rfl⟩), TB _ (List.mem_map.mpr ⟨("contrary", none), by decide, rfl⟩), TB _ (List.mem_map.mpr ⟨("order_of", none), by decide, rfl⟩), TB _ (List.mem_map.mpr ⟨("without", none), by decide, rfl⟩)⟩ F⟩
  · obtain ⟨d, hd, rfl⟩ := all p hp
    exact c.empty _ hd
  · obtain ⟨d, hd, rfl⟩ := all p hp
    exact c.out _ hd
  · obtain ⟨d, hd, rfl⟩ := all p hp
    exact PySem.W.codeHd_of_K X (c.hd _ hd)
  · have hQ2 : Q ∈ (tf.map (He.cT K)).map (fun p => p.2) := hQ
    obtain ⟨p, hp, rfl⟩ := List.mem_map.mp hQ2
    exact ⟨#[], hT p hp, True.intro⟩
end K08
open PySem PySem.W PySem.Calls PyProof.Rows
theorem PySem.Challenge.cw_upanddowns_k08_whole_orders_holds : PySem.Challenge.rw_upanddowns_k08_whole_orders.Holds := by
  w_on; o_law
  refine HandSHeadRun.head_any (r := OpenLaw.row PySem.Challenge.rw_upanddowns_k08_whole_orders) (q := view (OpenLaw.row PySem.Challenge.rw_upanddowns_k08_whole_orders).prog [29]) (H := K08.hk) (ob := K08.ob) (M := 4000) (loose := K08.loose) (d := HandSHeadRun.topDef (OpenLaw.row PySem.Challenge.rw_upanddowns_k08_whole_orders).prog 29) (kwd := []) K08.ob_eq
    (by kernel_rfl) (fun s => by kernel_rfl) K08.run (by kernel_rfl) (by kernel_rfl) (by kernel_rfl) (by rfl) (by first | assumption | decide +kernel) (by decide +kernel) ⟨rfl, rfl, rfl, rfl, rfl, by decide +kernel⟩ ?hw ?hc
  case hw => w_witness2
  case hc =>
    refine LamX.walk_ofTsE (l := PySem.Challenge.rw_upanddowns_k08_whole_orders) (n := 63) (k := 12) (x := "_law_script") (CX := fun _ => L2.CX0) rfl (by decide) (by kernel_rfl) ⟨rfl, by decide, by decide⟩ ?F (fun _ _ _ _ _ z => z)
    intro w mg fa h Y G hmg0
    obtain ⟨K, KX, c⟩ := Y
    have hmg : mg ("law" : PySem.Str) = some (.ref fa) := by
      have e : (HandSHeadRun.topDef (OpenLaw.row PySem.Challenge.rw_upanddowns_k08_whole_orders).prog 29).name = ("law" : PySem.Str) := by kernel_rfl
      rw [← e]
      exact hmg0
    exact ⟨K, KX, K08.law_at KX G hmg c⟩

