import PyProof.Rows.All
import Wide.All
import OpenK.AllK
import Wide.FinOn
import HandS.ForMost
import HandS.Conv
import HandS.Zip
import HandS.Walk
import HandS.IsInst
import HandS.Wide
import HandS.EndBits
import HandS.TupAny
import HandS.TupMul
import HandS.Style
import HandS.Deep
import HandS.NoneIn
import HandS.TupLe
import KE.GoesMore
import KE.GoesZip
import HandS.Dict
import HandS.Codes
import HandS.Exc
import HandS.ExcOwn
import HandS.WordsExc
import HandS.ExcField
import HandS.ExcInit
import KE.KExcIs
import PyProof.ExcBaseAll.LookupError
import PyProof.InstStoreFacts
import KE.KExcLine
import HandS.SetFor
import HandS.Strs
import HandS.Defaults
import HandS.OwnEq
import HandS.More
import HandS.SlotsOwn
import HandS.TryOnly
import OpenK.KOps
import KE.KCallOwn
import KE.KTryMore
import HandS.FStr
import HandS.Text
import HandS.StrMore
import KE.KxAffix
import KE.KxText
import HandS.Steps
import HandS.Iter
import PyProof.StrLawsRepr
import HandS.HotCalls
import HandS.MakeKwOnly
import PySem.Challenge.RW_postvote_k60_benches_made_and_parts_set
set_option Elab.async false
set_option linter.all false
set_option maxRecDepth 100000
namespace Pv
open PySem PySem.Spec PyProof.Rows L2
/-! heaps -/
theorem upNew {H : Hp} {p b : Addr} {o z : HO} (np : H p = none) (h : H b = some z) : upd H p o b = some z := by
  rw [upd_ne (ne_of_none h np)]; exact h
theorem sameNew {H : Hp} {p : Addr} {o : HO} (np : H p = none) : Same H (upd H p o) := fun _ _ e => upNew np e
/-! a def that is called where no repr is under way -/
structure FnG (P : Program) (w : World) (K : PySem.W.Frag) (mg : Str → Option Value) (base : Heap) (k : Nat) (f : Addr) (fd : FuncData) (ps : List Str) (sp : Sp) : Prop where
  cnt : ∀ vs H Q E, sp vs H Q E → vs.length = ps.length
  go : ∀ (A : Around) (outer : List Env) (s : Shared) (H : Hp) (args : Args) (us : List Value) (vs : List V) (Q : VK) (E : XK),
    A.guards = some [] → Room k A → Env0 P w K mg base A outer s H → BindsTo s fd args (ps.zip us) → Vals vs us →
    sp vs H Q E → codeAny (model P w) A (.call (.ref f) args) (CR CX0 outer P w H s Q E) s
section
variable {P : Program} {w : World} {K : PySem.W.Frag} {mg : Str → Option Value} {base : Heap}
theorem okG {x qual : Str} {st : Stmt} {f : Addr} {fd : FuncData} {N ps : List Str} {k : Nat} {sp : Sp}
    (F : Fun K x qual st f fd) (S : FnScope N ps (defScope st)) (cnt : ∀ vs H Q E, sp vs H Q E → vs.length = ps.length)
    (hbody : ∀ (cdv : Value) (A : Around) (outer : List Env) (s : Shared) (H : Hp) (vs : List V) (Q : VK) (E : XK),
      A.guards = some [] → Room k (A.deeper (envOfC qual (defScope st) s.heap.objs.size f cdv)) → sp vs H Q E →
      ∃ t, PSs (cxOf CX0 P w K mg base N qual (defScope st) f cdv A outer s H E).nox (defBody st) t ∧
        t { nx := fun _ H' => Q .non H', rt := Q } (start N vs) H) : FnG P w K mg base (k + 1) f fd ps sp := by
  obtain ⟨oc, od, kV, doc, pm, an, cdv, ct, osl, rfl, lk, hcd⟩ := F.ex
  refine ⟨cnt, ?_⟩
  intro A outer s H args us vs Q E hgd hr e0 hb r hsp
  have hl := cnt vs H Q E hsp
  have kk : ∀ b o, base.get? b = some o → s.heap.get? b = some o := fun b o e => (e0.bs b o e).1
  have KX : K.In s.heap := e0.mod.kin.keeps kk
  have lim : s.heap.NoLimit := e0.mod.nolimit.keeps kk
  refine codeAny_call_function hr.depth (KX _ _ lk) rfl S.co S.gen rfl (PySem.W.codeRec_of KX hcd)
    (hb _ _ _ _ (wpAny_newFunctionEnv_cells S.kind ?_ ?_))
  · rintro ⟨n, v⟩ hy
    rcases S.par n (List.of_mem_zip hy).1 with q | q
    · left; exact q
    · right; exact ⟨q, PySem.W.cellsFrom_some _ _ _ (Or.inl q)⟩
  · intro env he s1 x
    cases he
    refine ⟨lim.keeps x.toInCall.keep, ?_⟩
    apply codeAny_func
    obtain ⟨t, ht0, hq⟩ := hbody cdv A outer s H vs Q E hgd (hr.deeper _) hsp
    have ht := ht0.nox
    have I := inv_start (CX := CX0) (f := f) (qual := qual) (E := E) S hr.hd e0 hl r x
    refine wpAny_mono (ht.run [] s1 (start N vs) H _ I hq) ?_ (fun _ _ z => z)
    intro fl s' hs
    cases fl with
    | ret u => obtain ⟨v, σ', H', J, rv, q⟩ := hs; exact ⟨v, H', J.os, J.bare, J.base, J.hok, rv, q⟩
    | next => obtain ⟨σ', H', J, q⟩ := hs; exact ⟨V.non, H', J.os, J.bare, J.base, J.hok, rfl, q⟩
    | brk => obtain ⟨_, _, _, q⟩ := hs; exact q.elim
    | cont => obtain ⟨_, _, _, q⟩ := hs; exact q.elim
end
section
variable {X : Cx} {k : Nat} {f : Addr} {fd : FuncData} {ps : List Str} {sp : Sp} {x : Str} {p pos : Pos} {e : Expr} {es : List Expr} {t : TA}
theorem pe_callG (F : FnG X.prog X.w X.K X.mg X.base k f fd ps sp) (hgd : X.A.guards = some []) (hr : Room k X.A) (hg : Gl X x)
    (hm : X.mg x = some (.ref f)) (hk : PySem.W.keepIn X.K (.ref f) = true) (hb : Binds X.K fd ps []) (ha : PA X (e :: es) t)
    (hdb : (x == ("__debug__" : Str)) = false := by decide) (he : starEach (e :: es) X.env = (false, eval e X.env) :: starEach es X.env := by rfl)
    (hpl : (backTo pos (starEach es X.env)).any (·.1) = false := by rfl) :
    PE X (.Call (.Name x p) (e :: es) [] pos) (tCall sp [] E0 t) := by
  constructor
  intro pins s σ H Q I h
  refine wpAny_Call_Name_kw (ld_glob I hg hm ?_ hdb)
  refine PySem.W.callWith_K (h₀ := X.base) I.ok.mod.kin hk (thn (ha.run pos pins s σ H _ I h) ?_) he hpl
  rintro us s1 ⟨vs, H1, I1, r, q⟩
  refine ⟨I1.kIn, ?_⟩
  have r2 : Vals (vs ++ []) (us ++ []) := r.append .nil
  have hl : (us ++ []).length = ps.length := by rw [← r2.length]; exact F.cnt _ _ _ _ q
  refine wpAny_call (codeAny_mono (F.go X.A X.stack s1 H1 ⟨us, []⟩ (us ++ []) (vs ++ []) Q E0 hgd hr I1.env0 (hb s1 us I1.kIn hl) r2 q) ?_)
  intro rr s' hq
  match rr, hq with
  | .error e, hq => exact hq.elim
  | .ok (.ret u), hq => exact I1.after hq
  | .ok .next, hq => exact hq.elim
  | .ok .brk, hq => exact hq.elim
  | .ok .cont, hq => exact hq.elim
end
theorem lawG {P : Program} {w : World} {K : PySem.W.Frag} {mg mb : Str → Option Value} {k : Nat} {fa a : Addr} {fd : FuncData} {x : Str} {sp : Sp}
    {s₁ : Shared} {vs : List Value} {ns : List Int} (KX : K.In s₁.heap) (hns : s₁.heap.Ns mainGlobals mg) (hb : s₁.heap.Ns builtinsNs mb)
    (hbb : ∀ x : Str, x ≠ "__name__" → mb x = bootBuiltins x) (hlim : s₁.heap.NoLimit) (hg : s₁.gens = #[])
    (ha : s₁.heap.get? a = some { cls := .type "list", data := .seq vs.toArray }) (hi : IntsAre vs ns) (hl : ns.length ≤ sizeLine)
    (hr : Room k callerA) (F : ∀ base : Heap, K.In base → base.Ns mainGlobals mg → FnG P w K mg base k fa fd [x] sp)
    (hbind : ∀ (s : Shared) (u : Value), BindsTo s fd ⟨[u], []⟩ [(x, u)])
    (hsp : ∀ H : Hp, Only H → SqL K H a (ns.map V.int) → sp [.ref a] H (fun v _ => v = .bl true) E0) :
    codeAny (model P w) callerA (.call (.ref fa) ⟨[.ref a], []⟩)
      (fun r s' => r = .ok (.ret (.bool true)) ∧ OldK s₁.heap s'.heap ∧ s'.os = s₁.os ∧ AllBare s'.gens) s₁ := by
  have rv := vals_ints hi
  have lenV := hi.length
  have core : ∀ H : Hp, Only H → SqL K H a (ns.map V.int) → HOk P w H s₁.heap → (∀ b, H b ≠ none → b = a) → (H a ≠ none → K.lookup a = none) →
      codeAny (model P w) callerA (.call (.ref fa) ⟨[.ref a], []⟩)
        (fun r s' => r = .ok (.ret (.bool true)) ∧ OldK s₁.heap s'.heap ∧ s'.os = s₁.os ∧ AllBare s'.gens) s₁ := by
    intro H hO hS hok hA hK
    have noD : ∀ {b : Addr} {o : Obj} {es : Array DictEntry} {ep : Nat}, s₁.heap.get? b = some o → o.data = .dict es ep → H b = none := by
      intro b o es ep e d
      match q : H b with
      | none => rfl
      | some u =>
        obtain rfl : b = a := hA b (by rw [q]; simp)
        rw [ha] at e
        cases e
        exact absurd d (by intro z; cases z)
    have nsK : ∀ {b : Addr} {m : Str → Option Value}, s₁.heap.Ns b m → (hidT s₁.heap H).Ns b m := by
      rintro b m ⟨o, es, ep, e, d, r⟩
      exact ⟨o, es, ep, hidT_get e (noD e d), d, r⟩
    have hKb : K.In (hidT s₁.heap H) := by
      intro b o e
      refine hidT_get (KX b o e) ?_
      match q : H b with
      | none => rfl
      | some u =>
        obtain rfl : b = a := hA b (by rw [q]; simp)
        rw [hK (by rw [q]; simp)] at e
        cases e
    have hM : Mod K mg (hidT s₁.heap H) := by
      obtain ⟨mc, h1, h2⟩ := hlim
      exact ⟨hKb, nsK hns, ⟨mb, nsK hb, hbb⟩, ⟨mc, nsK h1, h2⟩⟩
    have e0 : Env0 P w K mg (hidT s₁.heap H) callerA [] s₁ H :=
      ⟨rfl, hM, fun b o e => of_hidT e, Nat.le_of_eq (hidT_size _ _), trivial, (fun b hb => by cases hb), hok, .of_eq hg⟩
    refine codeAny_mono ((F _ hKb (nsK hns)).go callerA [] s₁ H ⟨[.ref a], []⟩ [.ref a] [.ref a] _ _ rfl hr e0 (hbind s₁ (.ref a)) (.cons rfl .nil) (hsp H hO hS)) ?_
    intro r s' h
    match r, h with
    | .error e, h => exact h.elim
    | .ok .next, h => exact h.elim
    | .ok .brk, h => exact h.elim
    | .ok .cont, h => exact h.elim
    | .ok (.ret u), h =>
      obtain ⟨v, H', os, bare, un, hok', r', q⟩ := h
      cases (show v = V.bl true from q)
      cases (show u = Value.bool true from r')
      refine ⟨rfl, OldK.of_keep ?_, os, bare⟩
      intro b o e
      match q : H b with
      | none => exact un.keep b o e q (by intro z; cases z) (by intro z; cases z)
      | some u =>
        rcases hO b with z | ⟨ob, xs, z⟩
        · rw [q] at z; cases z
        · obtain ⟨e1, _⟩ := hok b _ z
          obtain ⟨e2, _⟩ := hok' b _ (un.frzs b ob _ z)
          rw [e] at e1
          cases e1
          exact e2
  match hk : K.lookup a with
  | some o =>
    have e := KX a o hk
    rw [ha] at e
    cases e
    refine core (fun _ => none) (fun _ => .inl rfl) (.inr ⟨_, vs.toArray, _, hk, rfl, rfl, rfl, ?_, by simpa using rv⟩) (fun b u z => by cases z) (fun b z => absurd rfl z) (fun z => absurd rfl z)
    rw [List.size_toArray, lenV]; exact hl
  | none =>
    let HA : Hp := fun b => if b = a then some (.frz { cls := .type "list", data := .seq vs.toArray } (.lst (ns.map V.int))) else none
    have at_a : HA a = some (.frz { cls := .type "list", data := .seq vs.toArray } (.lst (ns.map V.int))) := if_pos rfl
    have at_ne : ∀ b, b ≠ a → HA b = none := fun b h => if_neg h
    refine core HA ?_ (.inl (.inr ⟨_, at_a⟩)) ?_ ?_ (fun _ => hk)
    · intro b
      by_cases hb : b = a
      · subst hb; exact .inr ⟨_, _, at_a⟩
      · exact .inl (at_ne b hb)
    · intro b u z
      by_cases hb : b = a
      · subst hb
        rw [at_a] at z
        cases z
        exact ⟨ha, by rw [List.length_map]; exact hl, vs, _, rv, ha⟩
      · rw [at_ne b hb] at z; cases z
    · intro b z
      by_cases hb : b = a
      · exact hb
      · exact absurd (at_ne b hb) z
theorem walkG {l : PySem.W.OpenLaw} {n k : Nat} {q : Program} {loose : List Str} {XP : (Str → Option Value) → Heap → Prop} {YP : World → Heap → Prop}
    {d : DefRec} {K : Params → PySem.W.Frag} {sp : World → Sp} {x : Str} (hn : l.most = some n) (hn2 : n ≤ sizeLine) (hdf : d.params.defaults = [])
    (hr : Room k callerA) (hY : ∀ (w : World) (h : Heap), YP w h → (K w.params).In h)
    (F : ∀ (w : World) (mg : Str → Option Value) (fa : Addr) (h : Heap), (K w.params).In h → h.Ns mainGlobals mg → mg d.name = some (.ref fa) →
      ∃ fd : FuncData, (∀ (s : Shared) (u : Value), BindsTo s fd ⟨[u], []⟩ [(x, u)]) ∧
        ∀ base : Heap, (K w.params).In base → base.Ns mainGlobals mg → FnG l.prog w (K w.params) mg base k fa fd [x] (sp w))
    (hsp : ∀ (w : World) (H : Hp) (a : Addr) (ns : List Int), ns.length ≤ n → (∀ z ∈ ns, Builtin.Int.intBits z ≤ 1048576) → Only H →
      SqL (K w.params) H a (ns.map V.int) → sp w [.ref a] H (fun v _ => v = .bl true) E0) :
    PySem.W.WalkO q loose XP YP l.row.toRowW d [] (fun f vs => PySem.call f vs) := by
  refine Att.attach_callB hn hdf ?_
  intro w s₀ s₁ mg mb fa o pm cd doc a vs ns G Y ho hd hcd hmg hobj hints hlen hbits hg
  have KX := hY w _ Y
  obtain ⟨fd, hb, hF⟩ := F w mg fa _ KX G.T.g hmg
  exact lawG KX G.T.g G.T.b G.T.builtins G.T.nolimit hg hobj hints (Nat.le_trans hlen hn2) hr hF hb (fun H hO hS => hsp w H a ns hlen hbits hO hS)
/-! repr of data -/
end Pv
namespace Pv
open PySem PySem.Spec PyProof.Rows L2
theorem tup_mul0 (l : Addr) (items : Array Value) (n : Nat) (dd : Option Addr) (sl : Array (Option Value)) (u : Tok) (hi : items.isEmpty = false) :
    Meets (Builtin.«tuple.__mul__» ⟨[.ref l, .int ((0 : Nat) : Int) u], []⟩) (fun _ R s => s.heap.get? l = some { cls := .type "tuple", dict := dd, data := .seq items n, slots := sl } ∧
      R (.ok (.ret (Value.ref s.heap.objs.size))) { s with heap := s.heap.push { cls := Value.type "tuple", data := Data.seq #[] }, toks := s.toks }) :=
  .of_wp fun prog w A R s h => by
    obtain ⟨hp, g, d, tk, os⟩ := s
    obtain ⟨hl, h⟩ := h
    have f1 := AutoSeq1.idx_int
    wp_walk using AutoSeq1.wpAny_loadPart' hl
    repeat (first
      | (refine wpAny_ite_false (decide_eq_false (by simp [hi])) ?_; wp_walk using AutoSeq1.wpAny_loadPart' hl)
      | (refine wpAny_ite_true (decide_eq_true (by simp [hi])) ?_; wp_walk using AutoSeq1.wpAny_loadPart' hl))
    exact ⟨_, rfl, h⟩
theorem tup_mul1 (l : Addr) (items : Array Value) (n : Nat) (dd : Option Addr) (sl : Array (Option Value)) (u : Tok) :
    Meets (Builtin.«tuple.__mul__» ⟨[.ref l, .int ((1 : Nat) : Int) u], []⟩) (fun _ R s => s.heap.get? l = some { cls := .type "tuple", dict := dd, data := .seq items n, slots := sl } ∧
      R (.ok (.ret (Value.ref l))) s) :=
  .of_wp fun prog w A R s h => by
    obtain ⟨hp, g, d, tk, os⟩ := s
    obtain ⟨hl, h⟩ := h
    have f1 := AutoSeq1.idx_int
    wp_walk using AutoSeq1.wpAny_loadPart' hl
    repeat (first
      | (refine wpAny_ite_false (decide_eq_false (by simp)) ?_; wp_walk using AutoSeq1.wpAny_loadPart' hl)
      | (refine wpAny_ite_true (decide_eq_true (by simp)) ?_; wp_walk using AutoSeq1.wpAny_loadPart' hl))
    exact ⟨_, rfl, h⟩
def rRepA (K : PySem.W.Frag) : R2 := fun x y H Q => ∃ (l : Addr) (k : Nat) (xs : List V), x = .ref l ∧ y = .int k ∧ SqT K H l xs ∧ xs ≠ [] ∧ k ≤ 1000 ∧ xs.length ≤ 1000 ∧
    (k = 1 → Q (.ref l) H) ∧ (k ≠ 1 → ∀ p, H p = none → Q (.ref p) (upd H p (.tup (List.replicate k xs).flatten)))
abbrev RC := List V → Hp → VK → Prop
def rLenQ (K : PySem.W.Frag) : RC := fun xs H Q => ∃ (p : Addr) (ys : List V), xs = [.ref p] ∧ (SqL K H p ys ∨ SqT K H p ys) ∧ Q (.int ys.length) H
def rTupQ (K : PySem.W.Frag) : RC := fun xs H Q => ∃ (p : Addr) (ys : List V), xs = [.ref p] ∧ ((SqL K H p ys ∧ ∀ l, H l = none → Q (.ref l) (upd H l (.tup ys))) ∨ (SqT K H p ys ∧ Q (.ref p) H))
section
variable {X : Cx}
theorem call_lenQ : CallR X (.builtin "len") (rLenQ X.K) := call_len_seq
theorem call_tupQ : CallR X (.type "tuple") (rTupQ X.K) := call_tuple_of
/-- tuple * int -/
theorem op_repA : OpR X (binaryOp .Mult) (rRepA X.K) := by
  intro pins s σ H x y v u Q I rx ry h
  obtain ⟨l, k, xs, rfl, rfl, hT, hne, h2, hz, q1, q2⟩ := h
  by_cases hk2 : 2 ≤ k
  · exact op_repT pins s σ H _ _ v u Q I rx ry ⟨l, k, xs, rfl, rfl, hT, hne, by omega, by omega, hz, by simpa using q2 (by omega)⟩
  cases rx
  obtain ⟨t, rfl⟩ := ry
  obtain ⟨its, r, ⟨⟨cls, dd, data, sl⟩, ho, hc, n, hd⟩, hs⟩ := I.tuple hT
  simp only at hc hd
  subst hc hd
  have hi : its.toArray.isEmpty = false := by
    cases its with
    | nil => exact absurd (List.eq_nil_of_length_eq_zero (by simpa using r.length)) hne
    | cons a b => rfl
  refine wpAny_binaryOp_repeat_ref (T := "tuple") (U := "int") (by decide) ⟨_, ho, rfl⟩ (fun s' => typeIs_int s' k t) noFill_tuple_mul F.fills_int_mul F.slot_int_rmul repeat_tuple F.slot_int_index.lookup
    (call_meets F.slot_int_rmul (typeIs_int s k t) F.entry_int_rmul (F.args_int_rmul_2 _ _) (int_rmul_tuple k t l its.toArray n dd sl)
      ⟨ho, rfl, ⟨_, ho, rfl⟩, ?_⟩)
  obtain hk | hk : k = 0 ∨ k = 1 := by omega
  · subst hk
    refine call_meets F.slot_tuple_mul (show s.TypeIs (.ref l) "tuple" from ⟨_, ho, rfl⟩) F.entry_tuple_mul (F.args_tuple_mul_2 _ _) (tup_mul0 l its.toArray n dd sl t hi) ⟨ho, ?_⟩
    refine ⟨.ref s.heap.objs.size, _, I.laid (t' := s.toks) (o := .tup []) (fun b ob q => Heap.get?_push_of_some _ q) (Nat.le_refl _) ?_, rfl, q2 (by decide) _ (I.hok.fresh (Nat.le_refl _))⟩
    exact ⟨Nat.zero_le _, [], .nil, IsTup.new _ _⟩
  · subst hk
    exact call_meets F.slot_tuple_mul (show s.TypeIs (.ref l) "tuple" from ⟨_, ho, rfl⟩) F.entry_tuple_mul (F.args_tuple_mul_2 _ _) (tup_mul1 l its.toArray n dd sl t) ⟨ho, ⟨.ref l, H, I, rfl, q1 rfl⟩⟩
end
end Pv
namespace Pv
open PySem PySem.Spec PyProof.Rows L2
/-! tuples never change -/
def TupK (H H' : Hp) : Prop := ∀ b xs, (H b = some (.tup xs) → H' b = some (.tup xs)) ∧ ∀ u, H b = some (.frz u (.tup xs)) → H' b = some (.frz u (.tup xs))
theorem TupK.refl (H : Hp) : TupK H H := fun _ _ => ⟨id, fun _ => id⟩
theorem TupK.trans {H H1 H2 : Hp} (a : TupK H H1) (b : TupK H1 H2) : TupK H H2 := fun c xs => ⟨fun h => (b c xs).1 ((a c xs).1 h), fun u h => (b c xs).2 u ((a c xs).2 u h)⟩
theorem TupK.rd {H H' : Hp} (s : TupK H H') {b : Addr} {xs : List V} (h : Rd H b (.tup xs)) : Rd H' b (.tup xs) := by
  rcases h with h | ⟨o, h⟩
  · exact .inl ((s _ _).1 h)
  · exact .inr ⟨o, (s _ _).2 o h⟩
theorem TupK.of {H H' : Hp} (s : Same H H') : TupK H H' := fun _ _ => ⟨fun h => s _ _ h, fun _ h => s _ _ h⟩
theorem TupK.new {H : Hp} {p : Addr} {o : HO} (np : H p = none) : TupK H (upd H p o) := .of (sameNew np)
theorem TupK.put {H : Hp} {p : Addr} {o : HO} {ys : List V} (e : H p = some (.lst ys)) : TupK H (upd H p o) := by
  intro b xs
  refine ⟨fun h => ?_, fun u h => ?_⟩
  · rw [upd_ne (ne_of h e (by intro z; cases z))]; exact h
  · rw [upd_ne (ne_of h e (by intro z; cases z))]; exact h
theorem TupK.sq {K : PySem.W.Frag} {H H' : Hp} {a : Addr} {xs : List V} (s : TupK H H') (h : SqT K H a xs) : SqT K H' a xs := by
  rcases h with h | h
  · exact .inl (s.rd h)
  · exact .inr h
mutual
def tupOnly : PyData → Bool
  | .none | .bool _ | .int _ | .str _ => true
  | .tuple xs => tupOnlyAll xs
  | .list _ | .dict _ => false
def tupOnlyAll : List PyData → Bool
  | [] => true
  | x :: xs => tupOnly x && tupOnlyAll xs
end
mutual
theorem TupK.dp {K : PySem.W.Frag} {H H' : Hp} (s : TupK H H') : ∀ (d : PyData) (v : V), tupOnly d = true → Dp K H v d → Dp K H' v d
  | .none, v, _, h => by cases h; exact .non
  | .bool b, v, _, h => by cases h; exact .bl _
  | .int b, v, _, h => by cases h; exact .int _
  | .str b, v, _, h => by cases h; exact .str _
  | .tuple xs, v, t, h => by
    cases h with
    | tup hs ha => exact .tup (s.sq hs) (TupK.dpAll s xs _ (by simpa [tupOnly] using t) ha)
  | .list _, v, t, _ => by simp [tupOnly] at t
  | .dict _, v, t, _ => by simp [tupOnly] at t
theorem TupK.dpAll {K : PySem.W.Frag} {H H' : Hp} (s : TupK H H') : ∀ (ds : List PyData) (vs : List V), tupOnlyAll ds = true → DpAll K H vs ds → DpAll K H' vs ds
  | [], vs, _, h => by cases h; exact .nil
  | d :: ds, vs, t, h => by
    have t' : tupOnly d = true ∧ tupOnlyAll ds = true := by simpa [tupOnlyAll] using t
    cases h with
    | cons h1 h2 => exact .cons (TupK.dp s d _ t'.1 h1) (TupK.dpAll s ds _ t'.2 h2)
end
theorem tupOnlyAll_of {ds : List PyData} (h : ∀ d ∈ ds, tupOnly d = true) : tupOnlyAll ds = true := by
  induction ds with
  | nil => simp [tupOnlyAll]
  | cons d ds ih => simp [tupOnlyAll, h d (by simp), ih (fun e he => h e (by simp [he]))]
/-! data -/
abbrev Gp := List Int × Int
def dI (ns : List Int) : PyData := .tuple (ns.map .int)
def dGrp (g : Gp) : PyData := .tuple [dI g.1, .int g.2]
def dInst (cs : List Int) (gs : List Gp) : PyData := .tuple [dI cs, .tuple (gs.map dGrp)]
def dAsg (rows : List (List Int)) : PyData := .tuple (rows.map dI)
theorem to_ints (ns : List Int) : tupOnlyAll (ns.map PyData.int) = true := tupOnlyAll_of (by intro d hd; obtain ⟨n, _, rfl⟩ := List.mem_map.mp hd; simp [tupOnly])
theorem to_dI (ns : List Int) : tupOnly (dI ns) = true := by simp [dI, tupOnly, to_ints]
theorem to_dGrp (g : Gp) : tupOnly (dGrp g) = true := by simp [dGrp, tupOnly, tupOnlyAll, to_dI]
theorem to_grps (gs : List Gp) : tupOnlyAll (gs.map dGrp) = true := tupOnlyAll_of (by intro d hd; obtain ⟨n, _, rfl⟩ := List.mem_map.mp hd; exact to_dGrp n)
theorem to_dInst (cs : List Int) (gs : List Gp) : tupOnly (dInst cs gs) = true := by simp [dInst, tupOnly, tupOnlyAll, to_dI, to_grps]
section
variable {K : PySem.W.Frag} {H : Hp}
theorem DpAll.len : ∀ {vs : List V} {ds : List PyData}, DpAll K H vs ds → vs.length = ds.length
  | _, _, .nil => rfl
  | _, _, .cons _ t => by simp [DpAll.len t]
theorem DpAll.ints : ∀ {ns : List Int} {vs : List V}, DpAll K H vs (ns.map PyData.int) → vs = ns.map V.int
  | [], _, h => by cases h; rfl
  | n :: ns, _, h => by
    cases h with
    | cons h1 h2 => cases h1; rw [DpAll.ints h2]; rfl
theorem dp_ints : ∀ (ns : List Int), DpAll K H (ns.map V.int) (ns.map PyData.int)
  | [] => .nil
  | n :: ns => .cons (.int n) (dp_ints ns)
theorem DpAll.at : ∀ {vs : List V} {ds : List PyData} {i : Nat} {v : V}, DpAll K H vs ds → vs[i]? = some v → ∃ d, ds[i]? = some d ∧ Dp K H v d
  | _, _, _, _, .nil, e => by simp at e
  | _, _, 0, _, .cons h _, e => by simp at e; subst e; exact ⟨_, rfl, h⟩
  | _, _, i + 1, v, .cons _ t, e => by
    obtain ⟨d, h1, h2⟩ := DpAll.at (i := i) t (by simpa using e)
    exact ⟨d, by simpa using h1, h2⟩
theorem DpAll.snoc : ∀ {vs : List V} {ds : List PyData} {v : V} {d : PyData}, DpAll K H vs ds → Dp K H v d → DpAll K H (vs ++ [v]) (ds ++ [d])
  | _, _, _, _, .nil, h => .cons h .nil
  | _, _, _, _, .cons h t, h' => .cons h (DpAll.snoc t h')
theorem dI_sq {a : Addr} {ns : List Int} (h : SqT K H a (ns.map V.int)) : Dp K H (.ref a) (dI ns) := .tup h (dp_ints ns)
theorem dI_ref {v : V} {ns : List Int} (h : Dp K H v (dI ns)) : ∃ a, v = .ref a ∧ SqT K H a (ns.map V.int) := by
  cases h with
  | tup hs ha => rw [DpAll.ints ha] at hs; exact ⟨_, rfl, hs⟩
theorem grp_ref {v : V} {g : Gp} (h : Dp K H v (dGrp g)) : ∃ a p, v = .ref a ∧ SqT K H a [.ref p, .int g.2] ∧ SqT K H p (g.1.map V.int) := by
  cases h with
  | tup hs ha =>
    cases ha with
    | cons h1 h2 =>
      cases h2 with
      | cons h3 h4 =>
        cases h4
        cases h3
        obtain ⟨p, rfl, hp⟩ := dI_ref h1
        exact ⟨_, p, rfl, hs, hp⟩
theorem inst_open {v : V} {cs : List Int} {gs : List Gp} (h : Dp K H v (dInst cs gs)) :
    ∃ a c g xs, v = .ref a ∧ SqT K H a [.ref c, .ref g] ∧ SqT K H c (cs.map V.int) ∧ SqT K H g xs ∧ DpAll K H xs (gs.map dGrp) := by
  cases h with
  | tup hs ha =>
    cases ha with
    | cons h1 h2 =>
      cases h2 with
      | cons h3 h4 =>
        cases h4
        obtain ⟨c, rfl, hc⟩ := dI_ref h1
        cases h3 with
        | tup hg hx => exact ⟨_, c, _, _, rfl, hs, hc, hg, hx⟩
end
/-! what repr wants of data -/
structure Fine (k B : Nat) (d : PyData) : Prop where
  sh : d.showable = true
  nd : d.hasDict = false
  dp : d.depth ≤ k
  ln : d.shown.length ≤ B
theorem Fine.mono {k k' B B' : Nat} {d : PyData} (h : Fine k B d) (hk : k ≤ k') (hB : B ≤ B') : Fine k' B' d := ⟨h.sh, h.nd, Nat.le_trans h.dp hk, Nat.le_trans h.ln hB⟩
theorem fine_int {i : Int} (h : i.natAbs < 10 ^ 20) : Fine 0 25 (.int i) := by
  refine ⟨?_, by simp [PyData.hasDict], by simp [PyData.depth], ?_⟩
  · simp only [PyData.showable, decide_eq_true_eq]
    have : i.natAbs.log2 < 100 := by
      by_cases h0 : i.natAbs = 0
      · rw [h0]; decide
      · exact (Nat.log2_lt h0).mpr (Nat.lt_trans h (by decide))
    omega
  · have e := int_text_length_le10 (k := 20) (by decide) h
    show (Str.ofString (toString i)).length ≤ 25
    rw [PySem.ofString_length]
    omega
theorem fine_all {k B : Nat} : ∀ {xs : List PyData}, (∀ x ∈ xs, Fine k B x) → PyData.showableAll xs = true ∧ PyData.hasDictAll xs = false ∧ PyData.depthAll xs ≤ k ∧ ((PyData.shownAll xs).map (·.length)).sum ≤ xs.length * B ∧ (PyData.shownAll xs).length = xs.length
  | [], _ => by simp [PyData.showableAll, PyData.hasDictAll, PyData.depthAll, PyData.shownAll]
  | x :: xs, h => by
    obtain ⟨h1, h2, h3, h4, h5⟩ := fine_all (xs := xs) (fun y hy => h y (by simp [hy]))
    have hx := h x (by simp)
    refine ⟨by simp [PyData.showableAll, hx.sh, h1], by simp [PyData.hasDictAll, hx.nd, h2], ?_, ?_, ?_⟩
    · simp only [PyData.depthAll]; have := hx.dp; omega
    · simp only [PyData.shownAll, List.map_cons, List.sum_cons, List.length_cons]; have := hx.ln; rw [Nat.succ_mul]; omega
    · simp [PyData.shownAll, h5]
theorem fine_tup {k B n : Nat} {xs : List PyData} (h : ∀ x ∈ xs, Fine k B x) (hn : xs.length ≤ n) : Fine (k + 1) (n * (B + 2) + 3) (.tuple xs) := by
  obtain ⟨h1, h2, h3, h4, h5⟩ := fine_all h
  refine ⟨by simp only [PyData.showable]; exact h1, by simp only [PyData.hasDict]; exact h2, by simp only [PyData.depth]; omega, ?_⟩
  simp only [PyData.shown]
  have e := tupleText_len_le (PyData.shownAll xs)
  rw [h5] at e
  have m : xs.length * (B + 2) ≤ n * (B + 2) := Nat.mul_le_mul_right _ hn
  rw [Nat.mul_add] at m
  omega
theorem fine_dI {ns : List Int} {n : Nat} (h : ∀ i ∈ ns, i.natAbs < 10 ^ 20) (hn : ns.length ≤ n) : Fine 1 (n * 27 + 3) (dI ns) := by
  refine fine_tup (B := 25) ?_ (by simpa using hn)
  intro d hd
  obtain ⟨i, hi, rfl⟩ := List.mem_map.mp hd
  exact fine_int (h i hi)
/-! the drawing state of the law: a list of the cells, the rests and the turn -/
structure DS (H : Hp) (st c r : Addr) (t : Nat) : Prop where
  hs : H st = some (.lst [.ref c, .ref r, .int t])
  ex : ∃ cells rests : List Int, H c = some (.lst (cells.map V.int)) ∧ H r = some (.lst (rests.map V.int)) ∧ cells.length = rests.length ∧
    0 < cells.length ∧ cells.length ≤ 100 ∧ ∀ x ∈ rests, 0 ≤ x
  n1 : c ≠ r
  n2 : st ≠ c
  n3 : st ≠ r
def Ext (st r : Addr) (H H' : Hp) : Prop := ∀ b o, H b = some o → b ≠ st → b ≠ r → H' b = some o
section
variable {H H1 H2 : Hp} {st c r p : Addr} {t : Nat} {o : HO}
theorem Ext.trans (a : Ext st r H H1) (b : Ext st r H1 H2) : Ext st r H H2 := fun x o h n1 n2 => b x o (a x o h n1 n2) n1 n2
theorem Ext.of (s : Same H H1) : Ext st r H H1 := fun b o h _ _ => s b o h
theorem Ext.tup (d : DS H st c r t) (e : Ext st r H H1) : TupK H H1 := by
  obtain ⟨cells, rests, hc, hr, _⟩ := d.ex
  intro b xs
  refine ⟨fun h => ?_, fun u h => ?_⟩
  · exact e _ _ h (ne_of h d.hs (by intro z; cases z)) (ne_of h hr (by intro z; cases z))
  · exact e _ _ h (ne_of h d.hs (by intro z; cases z)) (ne_of h hr (by intro z; cases z))
theorem DS.same (d : DS H st c r t) (s : Same H H1) : DS H1 st c r t := by
  obtain ⟨cells, rests, hc, hr, q⟩ := d.ex
  exact ⟨s _ _ d.hs, ⟨cells, rests, s _ _ hc, s _ _ hr, q⟩, d.n1, d.n2, d.n3⟩
theorem DS.new (d : DS H st c r t) (np : H p = none) : DS (upd H p o) st c r t := d.same (sameNew np)
theorem DS.put (d : DS H st c r t) (h1 : p ≠ st) (h2 : p ≠ c) (h3 : p ≠ r) : DS (upd H p o) st c r t := by
  obtain ⟨cells, rests, hc, hr, q⟩ := d.ex
  exact ⟨by rw [upd_ne h1.symm]; exact d.hs, ⟨cells, rests, by rw [upd_ne h2.symm]; exact hc, by rw [upd_ne h3.symm]; exact hr, q⟩, d.n1, d.n2, d.n3⟩
/-- an address that was free while the state stood is none of its own -/
theorem DS.off (d : DS H st c r t) (np : H p = none) : p ≠ st ∧ p ≠ c ∧ p ≠ r := by
  obtain ⟨cells, rests, hc, hr, q⟩ := d.ex
  exact ⟨(ne_of_none d.hs np).symm, (ne_of_none hc np).symm, (ne_of_none hr np).symm⟩
end
end Pv
namespace Pv
open PySem PySem.Spec PyProof.Rows L2
/-! enumerate of a tuple -/
theorem enumT_new (l : Addr) (items : Array Value) (n : Nat) (dct : Option Addr) (sl : Array (Option Value)) :
    Meets (Builtin.«enumerate.__new__» ⟨[.type "enumerate", .ref l], []⟩) (fun _ R s =>
      s.heap.get? l = some { cls := .type "tuple", dict := dct, data := .seq items n, slots := sl } ∧
      R (.ok (.ret (.ref (s.heap.push { cls := .type "tuple_iterator", data := .fields #[.ref l, .int 0 0] }).objs.size)))
        { s with heap := Heap.push (s.heap.push { cls := .type "tuple_iterator", data := .fields #[.ref l, .int 0 0] }) { cls := .type "enumerate", data := .fields #[.none, .bool false, .ref s.heap.objs.size, rawInt 0, .none, .none] } }) :=
  .of_wp fun prog w A R s h => by
    obtain ⟨hp, g, d, tk, os⟩ := s
    obtain ⟨hl, h⟩ := h
    have hsub := sub_enumerate
    have hL : Heap.IsTuple (Shared.heap ⟨hp, g, d, tk, os⟩) l items := ⟨_, hl, rfl, n, rfl⟩
    wp_walk using AutoSeq1.wpAny_loadPart' hl
    refine wpAny_stack_any fun st => wpAny_pure ?_
    split
    · rename_i c _ _ _ _ _
      cases (c == Value.type "enumerate") <;>
        (wp_walk using AutoSeq1.wpAny_loadPart' hl, wpAny_pyIter_tuple hL; exact ⟨_, rfl, h⟩)
    · wp_walk using AutoSeq1.wpAny_loadPart' hl, wpAny_pyIter_tuple hL
      exact ⟨_, rfl, h⟩
theorem call_enumT {prog : Program} {w : World} {A : Around} {E : Value → Shared → Prop} {s : Shared} {l : Addr} {items : Array Value} {Q : Value → Shared → Prop} (hL : s.heap.IsTuple l items)
    (h : ∀ h', IsEnum h' (s.heap.objs.size + 1) s.heap.objs.size 0 .none → h'.IsTupleIter s.heap.objs.size l 0 →
      (∀ b o, s.heap.get? b = some o → h'.get? b = some o) → Q (.ref (s.heap.objs.size + 1)) { s with heap := h' }) :
    wpAny (model prog w) A (call (.type "enumerate") [.ref l]) Q E s := by
  obtain ⟨⟨c, dct, dt, sl⟩, hl, hc, n, hd⟩ := hL
  simp only at hc hd
  subst hc hd
  refine callType_new F.called_enumerate (by decide) (F.typeCall_enumerate_1 _) (F.newCall_enumerate_1 _) (fun obj => F.args_object_init_2 obj _) F.entry_enumerate_new (enumT_new l items n dct sl) ⟨hl, ?_⟩
  have hz : (s.heap.push { cls := .type "tuple_iterator", data := .fields #[.ref l, .int 0 0] }).objs.size = s.heap.objs.size + 1 := Heap.size_push ..
  show _ ∧ _
  rw [hz]
  have ge : IsEnum (Heap.push (s.heap.push { cls := .type "tuple_iterator", data := .fields #[.ref l, .int 0 0] }) { cls := .type "enumerate", data := .fields #[.none, .bool false, .ref s.heap.objs.size, rawInt 0, .none, .none] }) (s.heap.objs.size + 1) s.heap.objs.size 0 .none := by
    rw [← hz]
    exact Heap.get?_push_size _ rfl
  exact ⟨⟨_, ge, rfl⟩, h _ ge ⟨_, Heap.get?_push_of_some _ (Heap.get?_push_size _ rfl), rfl, rfl⟩ fun b o x => Heap.get?_push_of_some _ (Heap.get?_push_of_some _ x)⟩
def IteT (K : PySem.W.Frag) (a : Addr) : It :=
  ⟨fun i H => ∃ (xs : List V) (x : V), SqT K H a xs ∧ xs[i]? = some x,
   fun i H v H' => ∃ T x, v = .ref T ∧ H T = none ∧ H' = upd H T (.tup [.int (i : Nat), x]) ∧ ∀ xs, SqT K H a xs → xs[i]? = some x,
   fun i H => ∃ xs : List V, SqT K H a xs ∧ xs.length = i⟩
theorem turn_enumT {P : Program} {w : World} {K : PySem.W.Frag} {elts : List Expr} {kk : Nat} {tpos : Pos} (a e it : Addr) :
    Turn P w K (.Tuple elts kk tpos) (IteT K a) [e, it] e (fun i h => (∃ old, IsEnum h e it ((i : Nat) : Int) old) ∧ h.IsTupleIter it a i ∧ e ≠ it) where
  mem := by simp
  obj := by
    rintro i h ⟨⟨old, he⟩, ⟨o, ho, hc, hd⟩, _⟩ b hb
    simp only [List.mem_cons, List.not_mem_nil, or_false] at hb
    rcases hb with rfl | rfl
    · exact ⟨_, he, fun v q => nomatch q⟩
    · exact ⟨o, ho, fun v q => by rw [hd] at q; cases q⟩
  keep := by
    rintro i h h' ⟨⟨old, he⟩, hi, hne⟩ k
    exact ⟨⟨old, k e (by simp) _ he⟩, hi.at fun o q => k it (by simp) o q, hne⟩
  item := by
    intro X hP hw hK hc i pins s σ H E I hf st hg
    subst hP hw hK
    obtain ⟨⟨old, he⟩, hit, hne⟩ := st
    obtain ⟨xs, x, hq, hx⟩ := hg
    obtain ⟨its, rv, p, hz⟩ := I.tuple hq
    obtain ⟨u, hu, ru⟩ := rv.get hx
    have hel : e < s.heap.objs.size := Heap.lt_size he
    have hil : it < s.heap.objs.size := by obtain ⟨_, q, _⟩ := hit; exact Heap.lt_size q
    have nea : e ≠ a := by
      rintro rfl
      obtain ⟨o, ho, hcl, _⟩ := p
      rw [he] at ho
      cases ho
      injection hcl with hcl
      exact absurd hcl (by decide)
    have nia : a ≠ it := by
      rintro rfl
      obtain ⟨o, ho, hcl, _⟩ := p
      obtain ⟨o2, ho2, hcl2, _⟩ := hit
      rw [ho] at ho2
      cases ho2
      rw [hcl] at hcl2
      injection hcl2 with hcl2
      exact absurd hcl2 (by decide)
    have hlt : i < its.toArray.size := by have := (List.getElem?_eq_some_iff.mp hu).1; simpa using this
    refine wpAny_pyNext_enum_itemD (Draws.tuple (A := X.A.in1) (I.ok.hd hc) it a nia its.toArray) he ⟨hit, p⟩ hlt hne (by simp [hne, nea]) ?_
    intro u' h' tk hu' ho st' hT hsz hk
    have hu2 : its.toArray[i]? = some u' := hu'
    have : u' = u := by
      have h3 : its.toArray[i]? = some u := by simpa using hu
      rw [h3] at hu2
      exact (Option.some.inj hu2).symm
    subst this
    refine ⟨_, rfl, wpAny_letOwnedTupleGo_enum (s := { s with heap := h', toks := tk + 1 }) ho fun h'' he' sb => ?_⟩
    have hT2 : h''.get? s.heap.objs.size = some { cls := .type "tuple", data := .seq #[.int i tk, u'] } := (sb.2 _ (Nat.ne_of_gt hel)).trans hT
    have new : ObjOk X.prog X.w (upd H s.heap.objs.size (.tup [.int (i : Nat), x])) h'' s.heap.objs.size (.tup [.int (i : Nat), x]) :=
      ⟨by show 2 ≤ sizeLine; decide, [.int i tk, u'], .cons ⟨_, rfl⟩ (.cons ru .nil), ⟨_, hT2, rfl, _, rfl⟩⟩
    have kk : ∀ b ob, b ∉ [e, it] → s.heap.get? b = some ob → h''.get? b = some ob := by
      intro b ob hb q
      have h1 : b ≠ e := fun z => hb (by simp [z])
      have h2 : b ≠ it := fun z => hb (by simp [z])
      exact (sb.2 b h1).trans (hk b ob h1 h2 q)
    have I1 : Inv X pins σ (upd H s.heap.objs.size (.tup [.int (i : Nat), x])) { s with heap := h'', toks := tk + 1 } :=
      I.turnedNew (ch := [e, it]) kk hf (Nat.le_refl _) new
    refine ⟨.ref s.heap.objs.size, _, I1, rfl, ⟨_, x, rfl, I.hok.fresh (Nat.le_refl _), rfl, fun ys hy => by rw [I.tuple_inj hy hq]; exact hx⟩, ⟨⟨u', ?_⟩, st'.1.at fun o q => (sb.2 it (Ne.symm hne)).trans q, hne⟩, fun b hb => ?_⟩
    · rw [show ((i + 1 : Nat) : Int) = (i : Int) + 1 by omega]; exact he'
    · have hb' : b < s.heap.objs.size := by
        simp only [List.mem_cons, List.not_mem_nil, or_false] at hb
        rcases hb with rfl | rfl <;> assumption
      rw [upd_ne (Nat.ne_of_lt hb')]
      exact (hf b hb).1
  done := by
    intro X hP hw hK hc i pins s σ H E I hf st hg
    subst hP hw hK
    obtain ⟨⟨old, he⟩, hit, hne⟩ := st
    obtain ⟨xs, hq, hx⟩ := hg
    obtain ⟨its, rv, p, hz⟩ := I.tuple hq
    obtain ⟨f0, f1, f2, f3, f4, f5⟩ := hf it (by simp)
    have hl := rv.length
    have nia : a ≠ it := by
      rintro rfl
      obtain ⟨o, ho, hcl, _⟩ := p
      obtain ⟨o2, ho2, hcl2, _⟩ := hit
      rw [ho] at ho2
      cases ho2
      rw [hcl] at hcl2
      injection hcl2 with hcl2
      exact absurd hcl2 (by decide)
    have hi : i = its.toArray.size := by rw [List.size_toArray]; omega
    refine wpAny_pyNext_enum_endD (Draws.tuple (A := X.A.in1) (I.ok.hd hc) it a nia its.toArray) he (by rw [← hi]; exact ⟨hit, p⟩) fun h' eb => ⟨rfl, I.turned (t' := s.toks) (fun b o hb q => eb b o hb q) f0 f1 f3 f4 f5⟩
  self := by
    rintro A i s Q E ⟨⟨_, he⟩, _⟩ h
    exact wpAny_pyIter_enum he h
def iEnumT (K : PySem.W.Frag) (ta : TA) : TI := fun σ H R => ta σ H fun vs H1 => ∃ a xs, vs = [.ref a] ∧ SqT K H1 a xs ∧ R (IteT K a) H1
theorem pi_enumT {X : Cx} {e : Expr} {ta : TA} {p pos tpos : Pos} {elts : List Expr} {kk : Nat} (hg : Gl X "enumerate") (hm : X.mg "enumerate" = none) (ha : PA X [e] ta)
    (hs : starEach [e] X.env = [(false, eval e X.env)] := by rfl) : PI X (.Tuple elts kk tpos) (.Call (.Name "enumerate" p) [e] [] pos) (iEnumT X.K ta) := by
  constructor
  intro pins s σ H R I h
  refine Call_ (ld_blt I hg hm boot_enumerate (PyProof.Rows.callWith_type1 (thn (ha.run pos pins s σ H _ I h) ?_) hs rfl))
  rintro us s1 ⟨vs, H1, I1, r1, a, xs, rfl, hq, q⟩
  obtain ⟨u, rfl, rfl⟩ := vals1 r1
  obtain ⟨its, rv, p', hz⟩ := I1.tuple hq
  refine call_enumT (show s1.heap.IsTuple a its.toArray from p') fun h' he hit hk => wpAny_pyIter_enum he ?_
  have I2 : Inv X pins σ H1 { s1 with heap := h' } := I1.kept (t' := s1.toks) hk
  refine ⟨s1.heap.objs.size + 1, [s1.heap.objs.size + 1, s1.heap.objs.size], _, _, H1, rfl, I2, turn_enumT a (s1.heap.objs.size + 1) s1.heap.objs.size, ⟨⟨.none, he⟩, hit, Nat.succ_ne_self _⟩, ?_, q⟩
  intro b hb
  have hle : s1.heap.objs.size ≤ b := by
    simp only [List.mem_cons, List.not_mem_nil, or_false] at hb
    rcases hb with rfl | rfl <;> omega
  exact I1.fpOk hle (I1.hok.fresh hle)
theorem walk_enumT {K : PySem.W.Frag} {a : Addr} {xs : List V} : Walk (IteT K a) xs.length (fun H => SqT K H a xs) (YPair (fun i => some (.int (i : Nat))) (fun i => xs[i]?)) := by
  constructor
  · intro i H hi q
    exact ⟨xs, xs[i], q, by simp [hi]⟩
  · intro H q
    exact ⟨xs, q, rfl⟩
  · rintro i H v H' _ q ⟨T, x, h1, h2, h3, h4⟩
    exact ⟨T, _, x, h1, h2, h3, rfl, h4 xs q⟩
/-! zip of a list and a tuple -/
abbrev zm1 (h : Heap) (l1 : Addr) : Heap := h.push { cls := .type "list_iterator", data := .fields #[.ref l1, .int 0 0] }
abbrev zm2 (h : Heap) (l1 l2 : Addr) : Heap := (zm1 h l1).push { cls := .type "tuple_iterator", data := .fields #[.ref l2, .int 0 0] }
abbrev zm3 (h : Heap) (l1 l2 : Addr) : Heap := (zm2 h l1 l2).push { cls := .type "tuple", data := .seq #[.ref h.objs.size, .ref (zm1 h l1).objs.size] }
abbrev zm4 (h : Heap) (l1 l2 : Addr) : Heap := (zm3 h l1 l2).push { cls := .type "tuple", data := .seq #[.none, .none] }
abbrev zm5 (h : Heap) (l1 l2 : Addr) : Heap := (zm4 h l1 l2).push { cls := .type "zip", data := .fields #[.none, .bool false, .bool false, .ref (zm2 h l1 l2).objs.size, .ref (zm3 h l1 l2).objs.size] }
def ItzM (K : PySem.W.Frag) (a b : Addr) : It :=
  ⟨fun i H => ∃ (xs ys : List V) (x y : V), SqL K H a xs ∧ SqT K H b ys ∧ xs[i]? = some x ∧ ys[i]? = some y,
   fun i H v H' => ∃ T x y, v = .ref T ∧ H T = none ∧ H' = upd H T (.tup [x, y]) ∧ (∀ xs, SqL K H a xs → xs[i]? = some x) ∧ ∀ ys, SqT K H b ys → ys[i]? = some y,
   fun i H => ∃ xs ys : List V, SqL K H a xs ∧ SqT K H b ys ∧ min xs.length ys.length = i⟩
def iZipM (K : PySem.W.Frag) (ta : TA) : TI := fun σ H R => ta σ H fun vs H1 => ∃ a b xs ys, vs = [.ref a, .ref b] ∧ SqL K H1 a xs ∧ SqT K H1 b ys ∧ R (ItzM K a b) H1
end Pv
namespace Pv
open PySem PySem.Spec PyProof.Rows L2
theorem samePut {H H1 : Hp} {D : Addr} {o : HO} (s : Same H H1) (nD : H D = none) : Same H (upd H1 D o) := fun b z e => by rw [upd_ne (ne_of_none e nD)]; exact s b z e
theorem small {n : Nat} (h : n ≤ 1000000) : n < sizeLine := Nat.lt_of_le_of_lt h (by decide)
def addAt (ls : List Int) (p x : Int) : List Int := ls.set p.toNat (ls.getD p.toNat 0 + x)
theorem freeOf {H : Hp} {p b : Addr} {o : HO} (h : upd H p o b = none) : H b = none := by
  by_cases e : b = p
  · subst e; rw [upd_same] at h; cases h
  · rw [upd_ne e] at h; exact h
def zeros (n : Nat) : List Int := List.replicate n 0
theorem take_snoc {α : Type} {l : List α} {i : Nat} {x : α} (h : l[i]? = some x) : l.take (i + 1) = l.take i ++ [x] := by rw [List.take_add_one, h]; rfl
theorem cut_to (xs : List V) (n : Nat) : cutV xs none (some (n : Int)) = xs.take n := by
  unfold cutV
  rw [HT.sIx_none, HT.sIx_nat, List.drop_zero, Nat.sub_zero]
  by_cases h : n ≤ xs.length
  · rw [Nat.min_eq_left h]
  · rw [Nat.min_eq_right (by omega), List.take_length, List.take_of_length_le (by omega)]
def absI (i : Int) : Int := if i < 0 then -i else i
def restI (c : Int) : Int := c * (if decide ((10 : Int) ^ (18 : Int).toNat ≤ c) = true then 1 else 0)
structure InsOk (cs : List Int) (gs : List Gp) : Prop where
  c1 : 1 ≤ cs.length
  c6 : cs.length ≤ 6
  cb : ∀ c ∈ cs, 1 ≤ c ∧ c ≤ 10 ^ 12
  g1 : 1 ≤ gs.length
  g10 : gs.length ≤ 10
  gp : ∀ g ∈ gs, g.1.length ≤ 6 ∧ (∀ p ∈ g.1, 0 ≤ p ∧ p < (cs.length : Int)) ∧ 1 ≤ g.2 ∧ g.2 ≤ 10 ^ 12
theorem Ext.nil {st c r p : Addr} {t : Nat} {H H1 : Hp} (x : Ext st r H H1) (d : DS H1 st c r t) (np : H1 p = none) : H p = none := by
  have o := d.off np
  cases e : H p with
  | none => rfl
  | some z => rw [x _ _ e o.1 o.2.2] at np; cases np
def upTo (n : Nat) : List Int := (List.range n).map fun (i : Nat) => (i : Int)
theorem rgV_upTo (n : Nat) : rgV 0 (n : Int) = (upTo n).map V.int := by
  unfold rgV upTo
  rw [List.map_map]
  simp
theorem upTo_len (n : Nat) : (upTo n).length = n := by simp [upTo]
theorem upTo_mem {n : Nat} {x : Int} (h : x ∈ upTo n) : 0 ≤ x ∧ x < n := by
  unfold upTo at h
  obtain ⟨i, hi, rfl⟩ := List.mem_map.mp h
  have := List.mem_range.mp hi
  omega
theorem erase_map {α β : Type} (f : α → β) : ∀ (l : List α) (k : Nat), (l.map f).eraseIdx k = (l.eraseIdx k).map f
  | [], _ => rfl
  | _ :: _, 0 => rfl
  | x :: l, k + 1 => by simp [erase_map f l k]
theorem fine_grp {cs : List Int} {gs : List Gp} (ok : InsOk cs gs) {g : Gp} (hg : g ∈ gs) : Fine 2 500 (dGrp g) := by
  obtain ⟨h1, h2, h3, h4⟩ := ok.gp g hg
  refine (fine_tup (k := 1) (B := 200) (n := 2) (xs := [dI g.1, .int g.2]) ?_ (by simp)).mono (by omega) (by omega)
  intro x hx
  simp at hx
  rcases hx with rfl | rfl
  · exact (fine_dI (n := 6) (fun p hp => by have := h2 p hp; have := ok.c6; omega) h1).mono (by omega) (by omega)
  · exact (fine_int (by omega)).mono (by omega) (by omega)
theorem fine_inst {cs : List Int} {gs : List Gp} (ok : InsOk cs gs) : Fine 4 20000 (dInst cs gs) := by
  refine (fine_tup (k := 3) (B := 8000) (n := 2) (xs := [dI cs, .tuple (gs.map dGrp)]) ?_ (by simp)).mono (by omega) (by omega)
  intro x hx
  simp at hx
  rcases hx with rfl | rfl
  · exact (fine_dI (n := 6) (fun p hp => by have := ok.cb p hp; omega) ok.c6).mono (by omega) (by omega)
  · refine (fine_tup (k := 2) (B := 500) (n := 10) ?_ (by rw [List.length_map]; exact ok.g10)).mono (by omega) (by omega)
    intro d hd
    obtain ⟨g, hg, rfl⟩ := List.mem_map.mp hd
    exact fine_grp ok hg
theorem hu70 {k : Nat} {A : Around} (hr : Room k A) : A.units + 70 < cLine := by have := hr.un; omega
theorem FnOk.none {P : Program} {w : World} {K : PySem.W.Frag} {mg : Str → Option Value} {base : Heap} {k : Nat} {f : Addr} {fd : FuncData} {ps : List Str} : FnOk P w K mg base CX0 k f fd ps (fun _ _ _ _ => False) :=
  ⟨fun _ _ _ _ h => h.elim, fun _ _ _ _ _ _ _ _ _ _ _ _ _ h => h.elim⟩
end Pv
namespace Pv
open PySem PySem.Spec PyProof.Rows L2
/-! data of any kind: lists stand off the drawing state, dicts have leaves alone -/
def kD : Key → PyData
  | .inl i => .int i
  | .inr x => .str x
mutual
inductive Dq (K : PySem.W.Frag) (st r : Addr) (H : Hp) : V → PyData → Prop
  | non : Dq K st r H .non .none
  | bl (b : Bool) : Dq K st r H (.bl b) (.bool b)
  | int (i : Int) : Dq K st r H (.int i) (.int i)
  | str (x : Str) : Dq K st r H (.str x) (.str x)
  | lst {a : Addr} {xs : List V} {ds : List PyData} : H a = some (.lst xs) → a ≠ st → a ≠ r → a ≠ sysModules → DqAll K st r H xs ds → Dq K st r H (.ref a) (.list ds)
  | tup {a : Addr} {xs : List V} {ds : List PyData} : SqT K H a xs → DqAll K st r H xs ds → Dq K st r H (.ref a) (.tuple ds)
  | dct {a : Addr} {kvs : List (Key × Int)} : H a = some (.dK (kvs.map fun p => (p.1, V.int p.2))) → Dq K st r H (.ref a) (.dict (kvs.map fun p => (kD p.1, .int p.2)))
inductive DqAll (K : PySem.W.Frag) (st r : Addr) (H : Hp) : List V → List PyData → Prop
  | nil : DqAll K st r H [] []
  | cons {v : V} {vs : List V} {d : PyData} {ds : List PyData} : Dq K st r H v d → DqAll K st r H vs ds → DqAll K st r H (v :: vs) (d :: ds)
end
theorem keys_reads {P : Program} {w : World} {h : Heap} : ∀ {kvs : List (Key × Int)} {vs : List (Key × Value)} {es : List DictEntry}, KV (kvs.map fun p => (p.1, V.int p.2)) vs → Pairs (mixKind P w) es vs →
    ReadsAll h (es.map (·.key)) ((kvs.map fun p => (kD p.1, PyData.int p.2)).map (·.1)) [] ∧ ReadsAll h (es.map (·.val)) ((kvs.map fun p => (kD p.1, PyData.int p.2)).map (·.2)) []
  | [], _, _, rk, rp => by
    cases rk
    cases rp
    exact ⟨.nil, .nil⟩
  | p :: kvs, _, _, rk, rp => by
    obtain ⟨pk, pi⟩ := p
    rw [List.map_cons] at rk
    cases rk with
    | @cons _ q _ qs hq tq =>
      obtain ⟨qk, qv⟩ := q
      obtain ⟨h1, h2⟩ := hq
      simp only at h1 h2
      subst h1
      cases rp with
      | @cons e _ es _ he hv tp =>
        obtain ⟨r1, r2⟩ := keys_reads (h := h) tq tp
        simp only at he hv
        obtain ⟨t, ht⟩ := h2
        subst ht
        refine ⟨?_, ?_⟩
        · have k1 : Reads h e.key (kD pk) [] := by
            rcases keyIs_shape (show keyIs pk e.key = true from he) with ⟨i, t, e1, e2⟩ | ⟨x, t, e1, e2⟩
            · rw [e1, e2]; exact .int i t
            · rw [e1, e2]; exact .str x t
          exact ReadsAll.cons k1 r1
        · have k2 : Reads h e.val (.int pi) [] := by rw [hv]; exact .int pi t
          exact ReadsAll.cons k2 r2
section
variable {X : Cx} {pins : List (Addr × Obj)} {σ : L2.St} {H : Hp} {s : Shared} {st r : Addr}
mutual
theorem Dq.reads (I : Inv X pins σ H s) : ∀ (d : PyData) (v : V) (u : Value), Dq X.K st r H v d → RelV v u → ∃ as, Reads s.heap u d as ∧ sysModules ∉ as
  | .none, _, _, h, q => by
    cases h; cases q; exact ⟨[], .none, by simp⟩
  | .bool b, _, _, h, q => by
    cases h; cases q; exact ⟨[], .bool b, by simp⟩
  | .int i, _, _, h, q => by
    cases h; obtain ⟨t, e⟩ := q; subst e; exact ⟨[], .int i t, by simp⟩
  | .str x, _, _, h, q => by
    cases h; obtain ⟨t, e⟩ := q; subst e; exact ⟨[], .str x t, by simp⟩
  | .list ds, _, _, h, q => by
    cases h with
    | lst e _ _ n hd =>
      cases q
      obtain ⟨its, rel, ⟨o, m, ho, hc, _, hm⟩, _⟩ := I.list (SqL.of e)
      obtain ⟨as, h1, h2⟩ := DqAll.reads I ds _ its hd rel
      exact ⟨_, .list ho hc hm h1, by simp only [List.mem_cons, not_or]; exact ⟨fun z => n z.symm, h2⟩⟩
  | .tuple ds, _, _, h, q => by
    cases h with
    | tup e hd =>
      cases q
      obtain ⟨its, rel, ⟨o, ho, hc, m, hm⟩, _⟩ := I.tuple e
      obtain ⟨as, h1, h2⟩ := DqAll.reads I ds _ its hd rel
      exact ⟨_, .tuple ho hc hm h1, h2⟩
  | .dict _, _, _, h, q => by
    cases h with
    | dct e =>
      cases q
      obtain ⟨_, nb, vs, rk, o, es, ep, ho, hx, hm, _, rp, _⟩ := dk_of I.hok e
      obtain ⟨h1, h2⟩ := keys_reads (h := s.heap) rk rp
      exact ⟨_, .dict ho hx.1 hm h1 h2, by simp only [List.nil_append, List.append_nil, List.mem_singleton, List.mem_cons, List.not_mem_nil, or_false]; exact fun z => absurd z.symm (by simpa using nb)⟩
theorem DqAll.reads (I : Inv X pins σ H s) : ∀ (ds : List PyData) (vs : List V) (us : List Value), DqAll X.K st r H vs ds → Vals vs us → ∃ as, ReadsAll s.heap us ds as ∧ sysModules ∉ as
  | [], _, _, h, q => by
    cases h; cases q; exact ⟨[], .nil, by simp⟩
  | d :: ds, _, _, h, q => by
    cases h with
    | cons h1 h2 =>
      cases q with
      | cons q1 q2 =>
        obtain ⟨as, e1, n1⟩ := Dq.reads I d _ _ h1 q1
        obtain ⟨bs, e2, n2⟩ := DqAll.reads I ds _ _ h2 q2
        exact ⟨_, .cons e1 e2, by simp only [List.mem_append, not_or]; exact ⟨n1, n2⟩⟩
end
end
/-- repr of such data -/
theorem call_reprQ {X : Cx} (hg : X.A.guards = some []) (hu : X.A.units + 70 < cLine) : CallR X (.builtin "repr")
    (fun xs H Q => ∃ a d st r, xs = [.ref a] ∧ Dq X.K st r H (.ref a) d ∧ d.showable = true ∧ d.depth ≤ 60 ∧ d.shown.length ≤ sizeLine ∧ Q (.str d.shown) H) := by
  intro pins s σ H xs us Q I rv h
  obtain ⟨a, d, st, r, rfl, hd, h1, h3, h4, q⟩ := h
  obtain ⟨u, rfl, rfl⟩ := vals1 rv
  obtain ⟨as, rd, nm⟩ := Dq.reads I d _ _ hd rfl
  exact repr_of_reads' rd h1 (fun _ => nm) hg (by omega) (fun _ _ e => e) (fun h' u tk hk => ⟨.str _, H, I.kept hk, ⟨_, rfl⟩, q⟩) h4
/-! how it lasts -/
section
variable {K : PySem.W.Frag} {st r c : Addr} {H H' : Hp}
structure Lasts (st r : Addr) (H H' : Hp) : Prop where
  tk : TupK H H'
  ls : ∀ a xs, H a = some (.lst xs) → a ≠ st → a ≠ r → H' a = some (.lst xs)
  dk : ∀ a kvs, H a = some (.dK kvs) → H' a = some (.dK kvs)
theorem Lasts.refl : Lasts st r H H := ⟨.refl _, fun _ _ e _ _ => e, fun _ _ e => e⟩
theorem Lasts.of (s : Same H H') : Lasts st r H H' := ⟨.of s, fun a xs e _ _ => s _ _ e, fun a kvs e => s _ _ e⟩
theorem Lasts.trans {H2 : Hp} (a : Lasts st r H H') (b : Lasts st r H' H2) : Lasts st r H H2 :=
  ⟨a.tk.trans b.tk, fun p xs e n1 n2 => b.ls _ _ (a.ls _ _ e n1 n2) n1 n2, fun p kvs e => b.dk _ _ (a.dk _ _ e)⟩
theorem Lasts.new {p : Addr} {o : HO} (np : H p = none) : Lasts st r H (upd H p o) := .of (sameNew np)
mutual
theorem Dq.lasts (l : Lasts st r H H') : ∀ {d : PyData} {v : V}, Dq K st r H v d → Dq K st r H' v d
  | .none, _, h => by cases h; exact .non
  | .bool _, _, h => by cases h; exact .bl _
  | .int _, _, h => by cases h; exact .int _
  | .str _, _, h => by cases h; exact .str _
  | .list _, _, h => by
    cases h with
    | lst e n1 n2 n3 hd => exact .lst (l.ls _ _ e n1 n2) n1 n2 n3 (DqAll.lasts l hd)
  | .tuple _, _, h => by
    cases h with
    | tup e hd => exact .tup (l.tk.sq e) (DqAll.lasts l hd)
  | .dict _, _, h => by
    cases h with
    | dct e => exact .dct (l.dk _ _ e)
theorem DqAll.lasts (l : Lasts st r H H') : ∀ {ds : List PyData} {vs : List V}, DqAll K st r H vs ds → DqAll K st r H' vs ds
  | [], _, h => by cases h; exact .nil
  | _ :: _, _, h => by
    cases h with
    | cons h1 h2 => exact .cons (Dq.lasts l h1) (DqAll.lasts l h2)
end
mutual
theorem Dq.of_dp : ∀ {d : PyData} {v : V}, tupOnly d = true → Dp K H v d → Dq K st r H v d
  | .none, _, _, h => by cases h; exact .non
  | .bool _, _, _, h => by cases h; exact .bl _
  | .int _, _, _, h => by cases h; exact .int _
  | .str _, _, _, h => by cases h; exact .str _
  | .list _, _, t, _ => by simp [tupOnly] at t
  | .tuple _, _, t, h => by
    cases h with
    | tup e hd => exact .tup e (DqAll.of_dp (by simpa [tupOnly] using t) hd)
  | .dict _, _, t, _ => by simp [tupOnly] at t
theorem DqAll.of_dp : ∀ {ds : List PyData} {vs : List V}, tupOnlyAll ds = true → DpAll K H vs ds → DqAll K st r H vs ds
  | [], _, _, h => by cases h; exact .nil
  | d :: ds, _, t, h => by
    have t' : tupOnly d = true ∧ tupOnlyAll ds = true := by simpa [tupOnlyAll] using t
    cases h with
    | cons h1 h2 => exact .cons (Dq.of_dp t'.1 h1) (DqAll.of_dp t'.2 h2)
theorem Dq.to_dp : ∀ {d : PyData} {v : V}, tupOnly d = true → Dq K st r H v d → Dp K H v d
  | .none, _, _, h => by cases h; exact .non
  | .bool _, _, _, h => by cases h; exact .bl _
  | .int _, _, _, h => by cases h; exact .int _
  | .str _, _, _, h => by cases h; exact .str _
  | .list _, _, t, _ => by simp [tupOnly] at t
  | .tuple _, _, t, h => by
    cases h with
    | tup e hd => exact .tup e (DqAll.to_dp (by simpa [tupOnly] using t) hd)
  | .dict _, _, t, _ => by simp [tupOnly] at t
theorem DqAll.to_dp : ∀ {ds : List PyData} {vs : List V}, tupOnlyAll ds = true → DqAll K st r H vs ds → DpAll K H vs ds
  | [], _, _, h => by cases h; exact .nil
  | d :: ds, _, t, h => by
    have t' : tupOnly d = true ∧ tupOnlyAll ds = true := by simpa [tupOnlyAll] using t
    cases h with
    | cons h1 h2 => exact .cons (Dq.to_dp t'.1 h1) (DqAll.to_dp t'.2 h2)
end
theorem DqAll.len : ∀ {vs : List V} {ds : List PyData}, DqAll K st r H vs ds → vs.length = ds.length
  | _, _, .nil => rfl
  | _, _, .cons _ t => by simp [DqAll.len t]
theorem DqAll.at : ∀ {vs : List V} {ds : List PyData} {i : Nat} {v : V}, DqAll K st r H vs ds → vs[i]? = some v → ∃ d, ds[i]? = some d ∧ Dq K st r H v d
  | _, _, _, _, .nil, e => by simp at e
  | _, _, 0, _, .cons h _, e => by simp at e; subst e; exact ⟨_, rfl, h⟩
  | _, _, i + 1, v, .cons _ t, e => by
    obtain ⟨d, h1, h2⟩ := DqAll.at (i := i) t (by simpa using e)
    exact ⟨d, by simpa using h1, h2⟩
theorem DqAll.app : ∀ {vs ws : List V} {ds es : List PyData}, DqAll K st r H vs ds → DqAll K st r H ws es → DqAll K st r H (vs ++ ws) (ds ++ es)
  | _, _, _, _, .nil, h => h
  | _, _, _, _, .cons h t, h' => .cons h (DqAll.app t h')
theorem DqAll.snoc {vs : List V} {ds : List PyData} {v : V} {d : PyData} (h : DqAll K st r H vs ds) (h' : Dq K st r H v d) : DqAll K st r H (vs ++ [v]) (ds ++ [d]) := h.app (.cons h' .nil)
theorem DqAll.take : ∀ {vs : List V} {ds : List PyData} (n : Nat), DqAll K st r H vs ds → DqAll K st r H (vs.take n) (ds.take n)
  | _, _, 0, _ => .nil
  | _, _, _ + 1, .nil => .nil
  | _, _, n + 1, .cons h t => .cons h (DqAll.take n t)
theorem DqAll.drop : ∀ {vs : List V} {ds : List PyData} (n : Nat), DqAll K st r H vs ds → DqAll K st r H (vs.drop n) (ds.drop n)
  | _, _, 0, h => h
  | _, _, _ + 1, .nil => .nil
  | _, _, n + 1, .cons _ t => DqAll.drop n t
/-- its type -/
def tyN : PyData → String
  | .none => "NoneType"
  | .bool _ => "bool"
  | .int _ => "int"
  | .str _ => "str"
  | .list _ => "list"
  | .tuple _ => "tuple"
  | .dict _ => "dict"
theorem Dq.ty {d : PyData} {v : V} (h : Dq K st r H v d) : TyX K H v (.type (tyN d)) := by
  cases h with
  | non => exact .base .non
  | bl b => exact .base (.bl b)
  | int i => exact .base (.int i)
  | str x => exact .base (.str x)
  | lst e => exact .base (.lst e)
  | tup e _ =>
    rcases e with (e | ⟨o, e⟩) | ⟨o, its, n, e, hc, _⟩
    · exact .base (.tup e)
    · exact .fTuple e
    · exact .kTuple e hc
  | dct e => exact .base (.dK e)
def isTup : PyData → Bool
  | .tuple _ => true
  | _ => false
def isInt : PyData → Bool
  | .int _ => true
  | .bool _ => true
  | _ => false
def isBool : PyData → Bool
  | .bool _ => true
  | _ => false
theorem kit_tup (d : PyData) : PySem.W.kitOne K (.type (tyN d)) (.type "tuple") = some (isTup d) := by
  have key : ∀ a b : String, ∀ x : Bool, kitB a b = some x → PySem.W.kitOne K (.type a) (.type b) = some x := fun _ _ _ h => kit_ty h
  cases d
  · exact key "NoneType" "tuple" false (by decide +kernel)
  · exact key "bool" "tuple" false (by decide +kernel)
  · exact key "int" "tuple" false (by decide +kernel)
  · exact key "str" "tuple" false (by decide +kernel)
  · exact key "list" "tuple" false (by decide +kernel)
  · exact key "tuple" "tuple" true (by decide +kernel)
  · exact key "dict" "tuple" false (by decide +kernel)
theorem kit_int (d : PyData) : PySem.W.kitOne K (.type (tyN d)) (.type "int") = some (isInt d) := by
  have key : ∀ a b : String, ∀ x : Bool, kitB a b = some x → PySem.W.kitOne K (.type a) (.type b) = some x := fun _ _ _ h => kit_ty h
  cases d
  · exact key "NoneType" "int" false (by decide +kernel)
  · exact key "bool" "int" true (by decide +kernel)
  · exact key "int" "int" true (by decide +kernel)
  · exact key "str" "int" false (by decide +kernel)
  · exact key "list" "int" false (by decide +kernel)
  · exact key "tuple" "int" false (by decide +kernel)
  · exact key "dict" "int" false (by decide +kernel)
theorem kit_bool (d : PyData) : PySem.W.kitOne K (.type (tyN d)) (.type "bool") = some (isBool d) := by
  have key : ∀ a b : String, ∀ x : Bool, kitB a b = some x → PySem.W.kitOne K (.type a) (.type b) = some x := fun _ _ _ h => kit_ty h
  cases d
  · exact key "NoneType" "bool" false (by decide +kernel)
  · exact key "bool" "bool" true (by decide +kernel)
  · exact key "int" "bool" false (by decide +kernel)
  · exact key "str" "bool" false (by decide +kernel)
  · exact key "list" "bool" false (by decide +kernel)
  · exact key "tuple" "bool" false (by decide +kernel)
  · exact key "dict" "bool" false (by decide +kernel)
end
/-! a new list, whose address is none of the machine's own -/
def tLstS (t : TA) : TE := fun σ H Q => t σ H fun xs H1 => xs.length ≤ sizeLine ∧ ∀ p, H1 p = none → p ≠ sysModules → Q (.ref p) (upd H1 p (.lst xs))
section
variable {X : Cx} {es : List Expr} {pos : Pos} {t : TA}
theorem pe_lstS (h : PA X es t) : PE X (.List es pos) (tLstS t) := by
  constructor
  intro pins s σ H Q I hq
  refine wpAny_List_spliced (thn (h.run pos pins s σ H _ I hq) ?_)
  rintro us s1 ⟨xs, H1, I1, rel, z, q⟩
  refine ⟨by rw [← rel.length]; exact z, .ref s1.heap.objs.size, _, ?_, rfl, q _ (I1.hok.fresh (Nat.le_refl _)) (Nat.ne_of_gt I1.big)⟩
  exact I1.laid (t' := s1.toks) (fun b u e => Heap.get?_push_of_some _ e) (Nat.le_refl _) ⟨z, us, 0, rel, Heap.get?_push_size _ rfl⟩
def rListS (K : PySem.W.Frag) : RC := fun xs H Q => ∃ (p : Addr) (ys : List V), xs = [.ref p] ∧ SqT K H p ys ∧ ∀ l, H l = none → l ≠ sysModules → Q (.ref l) (upd H l (.lst ys))
theorem call_listS : CallR X (.type "list") (rListS X.K) := by
  intro pins s σ H xs us Q I rel h
  obtain ⟨p, ys, e, hq, q⟩ := h
  subst e
  obtain ⟨u, e, rx⟩ := vals1 rel
  subst e
  cases rx
  obtain ⟨its, r', ⟨o, ho, hc, n, hd⟩, hz⟩ := I.tuple hq
  have hlen := r'.length
  refine call_list_seq p (.inr rfl) ho hc hd (fun h' c' kp e => ?_) (by simp only [List.size_toArray]; omega)
  exact ⟨.ref s.heap.objs.size, _, I.laid (t' := s.toks) (o := .lst ys) kp (Nat.le_refl _) ⟨hz, its, c', r', e⟩, rfl, q _ (I.hok.fresh (Nat.le_refl _)) (Nat.ne_of_gt I.big)⟩
end
end Pv
/-! t[::-1] of a tuple -/
namespace HT
open PySem PyProof.Rows
section
variable {prog : Program} {w : World} {A : Around} {E : Value → Shared → Prop} {s : Shared}
end
end HT
namespace Pv
open PySem PySem.Spec PyProof.Rows L2
def tRevT (K : PySem.W.Frag) (te : TE) : TE := fun σ H Q => te σ H fun x H1 => ∃ (a : Addr) (xs : List V), x = .ref a ∧ SqT K H1 a xs ∧ ∀ p, H1 p = none → Q (.ref p) (upd H1 p (.tup xs.reverse))
section
variable {X : Cx}
/-! list == [], tuple != () whatever the items are -/
def rEqNil (K : PySem.W.Frag) : R2 := fun x y H Q => ∃ (a b : Addr) (xs : List V), x = .ref a ∧ y = .ref b ∧ SqL K H a xs ∧ SqL K H b [] ∧ Q (.bl xs.isEmpty) H
def rNeNilT (K : PySem.W.Frag) : R2 := fun x y H Q => ∃ (a b : Addr) (xs : List V), x = .ref a ∧ y = .ref b ∧ SqT K H a xs ∧ SqT K H b [] ∧ Q (.bl (!xs.isEmpty)) H
theorem op_neNilT (hu : X.A.units < cLine) : OpR X (compareOp .NotEq) (rNeNilT X.K) := by
  intro pins s σ H x y v u Q I rx ry h
  obtain ⟨a, b, xs, rfl, rfl, ha, hb, q⟩ := h
  cases rx
  cases ry
  obtain ⟨its, r1, p1, z1⟩ := I.tuple ha
  obtain ⟨its2, r2, p2, z2⟩ := I.tuple hb
  cases r2
  have hl := r1.length
  have key := SeqAt.RcNeAt.tuples (A := X.A) (e := fun _ => true) (show s.heap.IsTuple a its.toArray from p1) (show s.heap.IsTuple b ([] : List Value).toArray from p2) hu (fun j _ h2 => absurd h2 (Nat.not_lt_zero _)) X.prog X.w
  have e : (!((List.range (min its.toArray.size ([] : List Value).toArray.size)).all (fun _ => true) && its.toArray.size == ([] : List Value).toArray.size)) = !xs.isEmpty := by
    rw [List.size_toArray, ← hl]
    cases xs <;> simp
  rw [e] at key
  exact key _ _ ⟨.bl _, H, I, rfl, q⟩
end
end Pv
namespace Pv
open PySem PySem.Spec PyProof.Rows L2
/-! how large data is -/
mutual
def fit (M : Nat) : PyData → Prop
  | .none => True
  | .bool _ => True
  | .int i => i.natAbs ≤ M
  | .str x => (reprText x).length ≤ 400
  | .list xs => fitAll M xs
  | .tuple xs => fitAll M xs
  | .dict kvs => (PyData.shown (.dict kvs)).length ≤ 40 ∧ PyData.showable (.dict kvs) = true
def fitAll (M : Nat) : List PyData → Prop
  | [] => True
  | x :: xs => fit M x ∧ fitAll M xs
end
mutual
def wt : PyData → Nat
  | .none => 40
  | .bool _ => 40
  | .int _ => 40
  | .str _ => 400
  | .list xs => wtAll xs + 3
  | .tuple xs => wtAll xs + 3
  | .dict _ => 40
def wtAll : List PyData → Nat
  | [] => 0
  | x :: xs => wt x + 2 + wtAll xs
end
theorem int_text {i : Int} {M : Nat} (h : i.natAbs ≤ M) (hM : M < 10 ^ 35) : (PyData.int i).showable = true ∧ (PyData.int i).shown.length ≤ 40 := by
  have h' : i.natAbs < 10 ^ 35 := by omega
  refine ⟨?_, ?_⟩
  · simp only [PyData.showable, decide_eq_true_eq]
    have : i.natAbs.log2 < 200 := by
      by_cases h0 : i.natAbs = 0
      · rw [h0]; decide
      · exact (Nat.log2_lt h0).mpr (Nat.lt_trans h' (by decide))
    omega
  · have e := int_text_length_le10 (k := 35) (by decide) h'
    show (Str.ofString (toString i)).length ≤ 40
    rw [PySem.ofString_length]
    omega
mutual
theorem fit_ok {M : Nat} (hM : M < 10 ^ 35) : ∀ {d : PyData}, fit M d → d.showable = true ∧ d.shown.length ≤ wt d
  | .none, _ => by simp only [PyData.showable, PyData.shown, wt]; decide
  | .bool b, _ => by cases b <;> (simp only [PyData.showable, PyData.shown, wt]; decide)
  | .int i, h => by
    have := int_text (i := i) (M := M) (by simpa only [fit] using h) hM
    simp only [wt]; exact this
  | .str x, h => by simp only [fit] at h; simp only [PyData.showable, PyData.shown, wt]; exact ⟨trivial, h⟩
  | .list xs, h => by
    obtain ⟨h1, h2⟩ := fitAll_ok hM (xs := xs) (by simpa only [fit] using h)
    simp only [PyData.showable, PyData.shown, wt]
    refine ⟨h1, ?_⟩
    have e := listText_len_le (PyData.shownAll xs)
    omega
  | .tuple xs, h => by
    obtain ⟨h1, h2⟩ := fitAll_ok hM (xs := xs) (by simpa only [fit] using h)
    simp only [PyData.showable, PyData.shown, wt]
    refine ⟨h1, ?_⟩
    have e := tupleText_len_le (PyData.shownAll xs)
    omega
  | .dict kvs, h => by simp only [fit] at h; simp only [wt]; exact ⟨h.2, h.1⟩
theorem fitAll_ok {M : Nat} (hM : M < 10 ^ 35) : ∀ {xs : List PyData}, fitAll M xs → PyData.showableAll xs = true ∧ ((PyData.shownAll xs).map (·.length)).sum + 2 * (PyData.shownAll xs).length ≤ wtAll xs
  | [], _ => by simp [PyData.showableAll, PyData.shownAll, wtAll]
  | x :: xs, h => by
    have h' : fit M x ∧ fitAll M xs := by simpa only [fitAll] using h
    obtain ⟨a1, a2⟩ := fit_ok hM h'.1
    obtain ⟨b1, b2⟩ := fitAll_ok hM h'.2
    refine ⟨by simp [PyData.showableAll, a1, b1], ?_⟩
    simp only [PyData.shownAll, List.map_cons, List.sum_cons, List.length_cons, wtAll]
    omega
end
mutual
theorem fit_mono {M M' : Nat} (h : M ≤ M') : ∀ {d : PyData}, fit M d → fit M' d
  | .none, _ => by simp [fit]
  | .bool _, _ => by simp [fit]
  | .int i, q => by simp only [fit] at *; omega
  | .str x, q => by simpa only [fit] using q
  | .list xs, q => by simp only [fit] at *; exact fitAll_mono h q
  | .tuple xs, q => by simp only [fit] at *; exact fitAll_mono h q
  | .dict _, q => by simpa only [fit] using q
theorem fitAll_mono {M M' : Nat} (h : M ≤ M') : ∀ {xs : List PyData}, fitAll M xs → fitAll M' xs
  | [], _ => by simp [fitAll]
  | x :: xs, q => by
    have q' : fit M x ∧ fitAll M xs := by simpa only [fitAll] using q
    simp only [fitAll]
    exact ⟨fit_mono h q'.1, fitAll_mono h q'.2⟩
end
theorem fitAll_iff {M : Nat} : ∀ {xs : List PyData}, fitAll M xs ↔ ∀ x ∈ xs, fit M x
  | [] => by simp [fitAll]
  | x :: xs => by simp [fitAll, fitAll_iff (xs := xs)]
theorem wtAll_app : ∀ (xs ys : List PyData), wtAll (xs ++ ys) = wtAll xs + wtAll ys
  | [], ys => by simp [wtAll]
  | x :: xs, ys => by simp only [List.cons_append, wtAll, wtAll_app xs ys]; omega
theorem wtAll_split (xs : List PyData) (n : Nat) : wtAll xs = wtAll (xs.take n) + wtAll (xs.drop n) := by rw [← wtAll_app, List.take_append_drop]
theorem wtAll_len : ∀ xs : List PyData, 2 * xs.length ≤ wtAll xs
  | [] => by simp [wtAll]
  | x :: xs => by have := wtAll_len xs; simp only [wtAll, List.length_cons]; omega
theorem depthAll_le {k : Nat} : ∀ {xs : List PyData}, PyData.depthAll xs ≤ k ↔ ∀ x ∈ xs, x.depth ≤ k
  | [] => by simp [PyData.depthAll]
  | x :: xs => by
    have := depthAll_le (k := k) (xs := xs)
    simp only [PyData.depthAll, List.mem_cons, forall_eq_or_imp, ← this]
    omega
structure Fit (M k W : Nat) (d : PyData) : Prop where
  ok : fit M d
  dp : d.depth ≤ k
  wt : wt d ≤ W
theorem Fit.mono {M M' k k' W W' : Nat} {d : PyData} (h : Fit M k W d) (h1 : M ≤ M') (h2 : k ≤ k') (h3 : W ≤ W') : Fit M' k' W' d := ⟨fit_mono h1 h.ok, Nat.le_trans h.dp h2, Nat.le_trans h.wt h3⟩
theorem Fit.at {M k W : Nat} {ds : List PyData} {d : PyData} (h : Fit M k W (.tuple ds)) (hm : d ∈ ds) : Fit M (k - 1) W d ∧ d.depth + 1 ≤ (PyData.tuple ds).depth ∧ 1 ≤ k := by
  have h1 : fitAll M ds := by have := h.ok; simpa only [fit] using this
  have h2 := h.dp
  simp only [PyData.depth] at h2
  have h3 : ∀ x ∈ ds, x.depth ≤ PyData.depthAll ds := depthAll_le.mp (Nat.le_refl _)
  have h4 := h3 d hm
  refine ⟨⟨fitAll_iff.mp h1 d hm, by omega, ?_⟩, by simp only [PyData.depth]; omega, by omega⟩
  obtain ⟨a, b, rfl⟩ := List.append_of_mem hm
  have h5 := h.wt
  simp only [Pv.wt, wtAll_app, wtAll] at h5
  omega
/-- a tuple made of parts -/
theorem Fit.tup {M k W : Nat} {ds : List PyData} (h1 : ∀ d ∈ ds, fit M d ∧ d.depth + 1 ≤ k) (h0 : 1 ≤ k) (h2 : wtAll ds + 3 ≤ W) : Fit M k W (.tuple ds) := by
  refine ⟨by simp only [fit]; exact fitAll_iff.mpr fun d hd => (h1 d hd).1, ?_, by simpa only [Pv.wt] using h2⟩
  simp only [PyData.depth]
  have : PyData.depthAll ds ≤ k - 1 := depthAll_le.mpr fun d hd => by have := (h1 d hd).2; omega
  omega
theorem Fit.lst {M k W : Nat} {ds : List PyData} (h1 : ∀ d ∈ ds, fit M d ∧ d.depth + 1 ≤ k) (h0 : 1 ≤ k) (h2 : wtAll ds + 3 ≤ W) : Fit M k W (.list ds) := by
  refine ⟨by simp only [fit]; exact fitAll_iff.mpr fun d hd => (h1 d hd).1, ?_, by simpa only [Pv.wt] using h2⟩
  simp only [PyData.depth]
  have : PyData.depthAll ds ≤ k - 1 := depthAll_le.mpr fun d hd => by have := (h1 d hd).2; omega
  omega
theorem Fit.parts {M k W : Nat} {ds : List PyData} (h : Fit M k W (.tuple ds)) : (∀ d ∈ ds, fit M d ∧ d.depth + 1 ≤ k) ∧ 1 ≤ k ∧ wtAll ds + 3 ≤ W := by
  have h0 : 1 ≤ k := by have := h.dp; simp only [PyData.depth] at this; omega
  refine ⟨fun d hd => ⟨(h.at hd).1.ok, ?_⟩, h0, by have := h.wt; simpa only [Pv.wt] using this⟩
  have := (h.at hd).1.dp
  omega
theorem Fit.int {M k W : Nat} {i : Int} (h : i.natAbs ≤ M) (hW : 40 ≤ W) : Fit M k W (.int i) := ⟨by simpa only [fit] using h, by simp [PyData.depth], by simpa only [Pv.wt] using hW⟩
/-! the data of instances and assignments -/
theorem fit_dI {M : Nat} {ns : List Int} (h : ∀ i ∈ ns, i.natAbs ≤ M) : Fit M 1 (ns.length * 42 + 3) (dI ns) := by
  have hw : wtAll (ns.map PyData.int) = ns.length * 42 := by
    clear h
    induction ns with
    | nil => rfl
    | cons a ns ih => simp only [List.map_cons, wtAll, wt, ih, List.length_cons]; omega
  refine Fit.tup ?_ (by decide) (by rw [hw]; exact Nat.le_refl _)
  intro d hd
  obtain ⟨i, hi, rfl⟩ := List.mem_map.mp hd
  exact ⟨by simpa only [fit] using h i hi, by simp [PyData.depth]⟩
theorem wtAll_le {W : Nat} : ∀ {ds : List PyData}, (∀ d ∈ ds, wt d ≤ W) → wtAll ds ≤ ds.length * (W + 2)
  | [], _ => by simp [wtAll]
  | d :: ds, h => by
    have h1 := h d (by simp)
    have h2 := wtAll_le (W := W) (ds := ds) (fun x hx => h x (by simp [hx]))
    simp only [wtAll, List.length_cons, Nat.succ_mul]; omega
theorem fit_dInst {M : Nat} {cs : List Int} {gs : List Gp} (hc : cs.length ≤ 10 ∧ ∀ i ∈ cs, i.natAbs ≤ M) (hg : gs.length ≤ 20) (h : ∀ g ∈ gs, g.1.length ≤ 10 ∧ (∀ i ∈ g.1, i.natAbs ≤ M) ∧ g.2.natAbs ≤ M) : Fit M 5 20000 (dInst cs gs) := by
  have f1 := fit_dI hc.2
  have f2 : ∀ g ∈ gs, Fit M 2 600 (dGrp g) := by
    intro g hgm
    have f3 := fit_dI (M := M) (h g hgm).2.1
    have hl := (h g hgm).1
    unfold dGrp
    refine Fit.tup ?_ (by decide) ?_
    · intro d hd
      rcases List.mem_cons.mp hd with rfl | hd
      · exact ⟨f3.ok, by have := f3.dp; omega⟩
      · rcases List.mem_cons.mp hd with rfl | hd
        · exact ⟨by simpa only [fit] using (h g hgm).2.2, by simp [PyData.depth]⟩
        · cases hd
    · have := f3.wt
      simp only [wtAll, Pv.wt]; omega
  have f4 : Fit M 3 13000 (.tuple (gs.map dGrp)) := by
    refine Fit.tup ?_ (by decide) ?_
    · intro d hd
      obtain ⟨g, hgm, rfl⟩ := List.mem_map.mp hd
      exact ⟨(f2 g hgm).ok, by have := (f2 g hgm).dp; omega⟩
    · have := wtAll_le (W := 600) (ds := gs.map dGrp) (by
        intro d hd
        obtain ⟨g, hgm, rfl⟩ := List.mem_map.mp hd
        exact (f2 g hgm).wt)
      rw [List.length_map] at this
      omega
  unfold dInst
  refine Fit.tup ?_ (by decide) ?_
  · intro d hd
    rcases List.mem_cons.mp hd with rfl | hd
    · exact ⟨f1.ok, by have := f1.dp; omega⟩
    · rcases List.mem_cons.mp hd with rfl | hd
      · exact ⟨f4.ok, by have := f4.dp; omega⟩
      · cases hd
  · have h1 := f1.wt
    have h2 := f4.wt
    have := hc.1
    simp only [wtAll]; omega
end Pv
namespace Pv
open PySem PySem.Spec PyProof.Rows L2
/-! errors of the program's own classes -/
abbrev VEbm : List Value := [.type "ValueError", .type "Exception", .type "BaseException", .type "object"]
theorem pmk_own0 {X : Cx} {C : Addr} {bmB : List Value} {B newId initId : String} {x : Str} {p pos : Pos} (F : ExcBaseFacts B newId initId bmB) (q : PySem.W.excIn X.K C bmB newId = true) (gC : X.mg x = some (.ref C))
    (kC : PySem.W.keepIn X.K (.ref C) = true) (r : Raises X (.ref C)) (hg : Gl X x) (hdb : (x == ("__debug__" : Str)) = false := by decide) :
    PMk X (.Call (.Name x p) [] [] pos) (fun _ H Q => Q (.ref C) none H) := by
  intro pins s σ H Q I h
  refine wpAny_Call_Name_kw (ld_glob I hg gC ?_ hdb)
  refine PySem.W.callWith_K0 I.kIn kC ?_
  obtain ⟨bm, N, nm, qn, bs, hdct, sn, sub, ab, col, dd, k0, k1, k2, k3, k5, mN, hC, hN, hni, T⟩ := exc_obj I.kIn q
  show wpAny _ _ (call (.ref C) []) _ _ _
  refine wpAny_call_exc_subT F T hC hN hni (fun h' e hm => ?_) (Nat.zero_le _)
  exact mk_of I hm r h (I.hok.gone hm.new)
/-- what is asked of a class whose errors isinstance is asked of -/
structure IsC (K : PySem.W.Frag) (D : Addr) : Prop where
  cl : (PySem.W.clsIn K D).isSome = true
  hg : PySem.W.findIn K (.ref D) "__getattribute__" = some (some (.builtin "BaseException.__getattribute__"))
  hk : PySem.W.findIn K (.ref D) "__getattr__" = some none
  hs : PySem.W.subIn K (.ref D) (.type "BaseException") = some true
  ty : PySem.W.typeIn K (.ref D) = some (.type "type")
  ha : PySem.W.findIn K (.ref D) "__class__" = some (some (.builtin "object.__class__"))
  hn : PySem.W.specialIn K (.builtin "object.__class__") "__get__" = some (some (.builtin "getset_descriptor.__get__"))
  ht : PySem.W.takesIn K (.builtin "object.__class__") = some true
  hm : PySem.W.mroIn K D (.type "object") = some true
  kp : PySem.W.keepIn K (.ref D) = true
def isCB (K : PySem.W.Frag) (D : Addr) : Bool :=
  (PySem.W.clsIn K D).isSome && (decide (PySem.W.findIn K (.ref D) "__getattribute__" = some (some (.builtin "BaseException.__getattribute__"))) && (decide (PySem.W.findIn K (.ref D) "__getattr__" = some none) &&
  (decide (PySem.W.subIn K (.ref D) (.type "BaseException") = some true) && (decide (PySem.W.typeIn K (.ref D) = some (.type "type")) && (decide (PySem.W.findIn K (.ref D) "__class__" = some (some (.builtin "object.__class__"))) &&
  (decide (PySem.W.specialIn K (.builtin "object.__class__") "__get__" = some (some (.builtin "getset_descriptor.__get__"))) && (decide (PySem.W.takesIn K (.builtin "object.__class__") = some true) &&
  (decide (PySem.W.mroIn K D (.type "object") = some true) && PySem.W.keepIn K (.ref D)))))))))
theorem isCB_ok {K : PySem.W.Frag} {D : Addr} (h : isCB K D = true) : IsC K D := by
  simp only [isCB, Bool.and_eq_true, decide_eq_true_eq] at h
  obtain ⟨h1, h2, h3, h4, h5, h6, h7, h8, h9, h10⟩ := h
  exact ⟨h1, h2, h3, h4, h5, h6, h7, h8, h9, h10⟩
theorem IsC.raises {X : Cx} {D : Addr} (c : IsC X.K D) : Raises X (.ref D) := raises_own c.hs c.ty
/-- isinstance(e, c), e the error that the suite holds, c a class or a tuple of classes -/
def rIsX (K : PySem.W.Frag) (a : Addr) (cls : Value) (d : Option Addr) : RC := fun xs H Q => ∃ (D : Addr) (c : V) (b : Bool), cls = .ref D ∧ IsC K D ∧ (∀ dx, d = some dx → ∃ fs, H dx = some (.xd fs)) ∧ xs = [.ref a, c] ∧
  ((∃ u, ClsV c u ∧ PySem.W.kitOne K (.ref D) u = some b) ∨ ∃ (tp : Addr) (cs : List V) (us : List Value), c = .ref tp ∧ H tp = some (.tup cs) ∧ Paired ClsV cs us ∧ PySem.W.kitAny K (.ref D) us = some b) ∧ Q (.bl b) H
end Pv
namespace Pv
open PySem PySem.Spec PyProof.Rows L2
/-! an error with one field of its own -/
def inCls (st : Stmt) (i : Nat) : Stmt := match st with
  | .ClassDef _ _ _ body _ _ _ _ _ _ _ => body.getD i (.Pass ⟨0, 0, 0, 0⟩)
  | _ => .Pass ⟨0, 0, 0, 0⟩
def spI1 (C : Addr) (fld : Str) : Sp := fun vs H Q _ => ∃ (a : Addr) (v : V), vs = [.ref a, v] ∧ H a = some (exo a C none) ∧ ∀ dx, H dx = none → dx ≠ a → Q .non (upd (upd H dx (exd dx [(fld, v)])) a (exo a C (some dx)))
theorem mkO1 {C : Addr} {fld : Str} {v : V} {H1 : Hp} {Q : XK} (h : ∀ d, H1 d = none → Q (.ref C) (some d) (upd H1 d (.xd [(fld, v)]))) :
    [v].length ≤ 1000 ∧ ∀ a, H1 a = none → spI1 C fld (.ref a :: ([v] ++ [])) (upd H1 a (exo a C none))
      (fun v' H2 => v' = .non ∧ ∃ (d : Addr) (fs : List (Str × V)), H2 a = some (exo a C (some d)) ∧ H2 d = some (exd d fs) ∧ H1 d = none ∧ Q (.ref C) (some d) (upd (del H2 a) d (.xd fs))) (fun _ _ _ => False) := by
  refine ⟨by simp, fun a na => ⟨a, v, rfl, upd_same, fun dx nd ne => ⟨rfl, dx, [(fld, v)], upd_same, ?_, ?_, ?_⟩⟩⟩
  · rw [upd_ne ne]; exact upd_same
  · rw [upd_ne ne] at nd; exact nd
  · have nd1 : H1 dx = none := by rw [upd_ne ne] at nd; exact nd
    have e : upd (del (upd (upd (upd H1 a (exo a C none)) dx (exd dx [(fld, v)])) a (exo a C (some dx))) a) dx (.xd [(fld, v)]) = upd H1 dx (.xd [(fld, v)]) := by
      funext b
      by_cases hb : b = dx
      · rw [hb, upd_same, upd_same]
      · rw [upd_ne hb, upd_ne hb]
        by_cases ha : b = a
        · rw [ha, del_same, na]
        · rw [del_ne ha, upd_ne ha, upd_ne hb, upd_ne ha]
    rw [e]
    exact h dx nd1
/-- what the written part says of such a class -/
structure XF (K : PySem.W.Frag) (C fI : Addr) (fld : Str) : Prop where
  T : OexC K C
  iC : PySem.W.findIn K (.ref C) "__init__" = some (some (.ref fI))
  tI : PySem.W.typeIn K (.ref fI) = some (.type "function")
  no : PySem.W.findIn K (.ref C) fld = some none
  rd : XfC K C
def xf1B (K : PySem.W.Frag) (C fI : Addr) (fld : Str) : Bool :=
  decide (PySem.W.findIn K (.ref C) "__setattr__" = some (some (.builtin "object.__setattr__"))) && (decide (PySem.W.subIn K (.ref C) (.type "BaseException") = some true) && (decide (PySem.W.typeIn K (.ref C) = some (.type "type")) && (PySem.W.keepIn K (.ref C) &&
  (decide (PySem.W.findIn K (.ref C) "__init__" = some (some (.ref fI))) && (decide (PySem.W.typeIn K (.ref fI) = some (.type "function")) && (decide (PySem.W.findIn K (.ref C) fld = some none) && xfB K C))))))
theorem xf1B_ok {K : PySem.W.Frag} {C fI : Addr} {fld : Str} (h : xf1B K C fI fld = true) (c : ∃ nm q N bs bm sn sub ab col dd k0 k1 k2 k3 k5, K.lookup C = some (excClassObj nm q C N bs bm true sn sub ab col dd k0 k1 k2 k3 k5 "ValueError.__new__") ∧ PySem.HandSPX.refsVE bm = true) : XF K C fI fld := by
  simp only [xf1B, Bool.and_eq_true, decide_eq_true_eq] at h
  obtain ⟨h1, h2, h3, h4, h5, h6, h7, h8⟩ := h
  exact ⟨⟨c, h1, h2, h3, h4⟩, h5, h6, h7, xfB_ok h8⟩
end Pv
namespace Pv
open PySem PySem.Spec PyProof.Rows L2
/-! the same for a class right under LookupError -/
abbrev LEbm : List Value := [.type "LookupError", .type "Exception", .type "BaseException", .type "object"]
structure OeL (K : PySem.W.Frag) (C : Addr) : Prop where
  cls : ∃ nm q N bs sn sub ab col dd k0 k1 k2 k3 k5, K.lookup C = some (excClassObj nm q C N bs LEbm true sn sub ab col dd k0 k1 k2 k3 k5 "LookupError.__new__")
  sa : PySem.W.findIn K (.ref C) "__setattr__" = some (some (.builtin "object.__setattr__"))
  exC : PySem.W.subIn K (.ref C) (.type "BaseException") = some true
  tyC : PySem.W.typeIn K (.ref C) = some (.type "type")
  kC : PySem.W.keepIn K (.ref C) = true
section
open PySem.HandSPX Builtin Builtin.ObjectAttr
variable {prog : Program} {w : World} {A : Around} {R : Result → Shared → Prop} {hp : Heap} {g : Array GenState} {d : Drawn} {t : Nat} {os : OsState}
theorem le_loop (self : Value) (c : Addr) : refuseLoop self "__setattr__" (.ref c :: LEbm) = pure () := (refuseLoop_ref ..).trans (PySem.F.store_LookupError.passes self)
/-- the first field is stored: a dict is laid, and nothing else is touched -/
theorem le_store {K : PySem.W.Frag} {fld : Str} {tk : Tok} {v : Value} {x C : Addr} {fv : Array Value} {cd : ClassData} (X : K.In hp) (hx : hp.get? x = some { cls := .ref C, data := .fields fv }) (hcd : PySem.W.clsIn K C = some cd)
    (hm : cd.mro = .ref C :: LEbm) (hh : cd.hasDict = true) (ha : PySem.W.findIn K (.ref C) fld = some none)
    (fin : ∀ h' tk' dx, (∀ b o, b ≠ x → hp.get? b = some o → h'.get? b = some o) → hp.objs.size ≤ dx → dx ≠ x → h'.get? x = some { cls := .ref C, dict := some dx, data := .fields fv } →
      h'.Ns1 dx (fun y => if y = fld then some v else none) → R (.ok (.ret .none)) ⟨h', g, d, tk', os⟩) :
    codeAny (model prog w) A (.call (.builtin "object.__setattr__") ⟨[.ref x, .str fld tk, v], []⟩) R ⟨hp, g, d, t, os⟩ := by
  have at_x : PySem.W.InstAt hp x { cls := .ref C, data := .fields fv } C none := ⟨hx, rfl, rfl, trivial⟩
  have far : x ≠ hp.objs.size := Nat.ne_of_lt (Heap.lt_size hx)
  have obj : PySem.W.mroIn K C (.type "object") = some true := by
    unfold PySem.W.mroIn
    rw [hcd, Option.bind_some, hm]
    rfl
  have isObj : PySem.W.Looks (model prog w) hp (isInstance (.ref x) (.type "object")) true := at_x.type.andThen (PySem.W.looks_mroIn X obj)
  have facts := PySem.F.store_object
  refine codeAny_call_builtin facts.slot.plain facts.entry (@PySem.W.check_slot (model prog w) _ _ ⟨hp, g, d, t, os⟩ "object.__setattr__" "object" "__setattr__" (.ref x) [.str fld tk, v] [] _ facts.kind facts.split isObj (facts.args (.ref x) (.str fld tk) v) ?_)
  have mros : PySem.W.Looks (model prog w) hp (mroOf (.ref C)) cd.mro := (PySem.W.looks_clsIn X hcd).andThen .now
  have data : PySem.W.Looks (model prog w) hp (classData C) cd := PySem.W.looks_clsIn X hcd
  have taker : PySem.W.Looks (model prog w) hp (storeTaker? none) none := .now
  rw [PySem.W.osa_eq, refuse_eq]
  refine wpAny_bind (wpAny_bind (at_x.type.at (wpAny_bind (mros.at ?_))))
  rw [hm, le_loop]
  refine wpAny_pure (wpAny_bind (at_x.type.at (wpAny_bind ((PySem.W.looks_findIn X ha).at (wpAny_bind (taker.at ?_))))))
  show wpAny _ _ (storeInOwnDict (.ref x) (.ref C) (.str fld tk) fld v false) _ _ _
  obtain ⟨nm, bs, mro, ns, qn, hd, sn, sb, ab, col, del⟩ := cd
  dsimp only at hh
  subst hh
  unfold storeInOwnDict ownDictForStores
  repeat (first | with_reducible refine PySem.HandSPX.store_in_new ?_ ?_ | with_reducible refine wpAny_loadPart_at hx ?_ | with_reducible refine data.at ?_ | wp_step)
  · exact ⟨_, #[], _, (Heap.get?_update_ne _ _ _ _ far.symm).trans (Heap.get?_push_at rfl rfl), rfl, fun e he => absurd he (by simp), fun _ => rfl⟩
  · intro h' tk' hn' hs
    have old : (hp.push { cls := .type "dict", data := .dict #[] }).get? x = some { cls := .ref C, data := .fields fv } := Heap.get?_push_of_some _ hx
    refine fin h' tk' hp.objs.size (fun b o hb ho => ?_) (Nat.le_refl _) far.symm ?_ hn'
    · rw [hs.2 b (Nat.ne_of_lt (Heap.lt_size ho)), Heap.get?_update_ne _ _ _ _ hb]
      exact Heap.get?_push_of_some _ ho
    · rw [hs.2 x far]
      exact Heap.get?_update_self _ old rfl
end
section
variable {X : Cx} {pins : List (Addr × Obj)} {σ : L2.St} {H : Hp} {s : Shared} {a C : Addr} {f : Str} {y : V} {u : Value} {Q : Unit → Shared → Prop} {E : Value → Shared → Prop} {A : Around}
theorem le_put (T : OeL X.K C) (I : Inv X pins σ H s) (e : H a = some (exo a C none)) (hno : PySem.W.findIn X.K (.ref C) f = some none) (ry : RelV y u)
    (fin : ∀ dx s', H dx = none → dx ≠ a → Inv X pins σ (upd (upd H dx (exd dx [(f, y)])) a (exo a C (some dx))) s' → Q () s') : wpAny (model X.prog X.w) A (setAttr (.ref a) f u) Q E s := by
  obtain ⟨nm, qn, N, bs, sn, sub, ab, col, dd, k0, k1, k2, k3, k5, hC⟩ := T.cls
  have hcl : PySem.W.clsIn X.K C = some { name := nm, bases := bs, mro := .ref C :: LEbm, ns := N, qualname := qn, hasDict := true, slotNames := sn, subclasses := sub, abstract := ab, collection := col, hasDel := false } := by
    unfold PySem.W.clsIn
    rw [hC] <;> rfl
  obtain ⟨t1, ho⟩ := exo_at I.hok e
  obtain ⟨hp, g, d, t, os⟩ := s
  refine PySem.W.set_plain I.kIn (ox := { cls := .ref C, dict := none, data := .fields #[.ref t1, .none, .none, .none, .bool false, .none] }) (od := none) ⟨ho, rfl, rfl, trivial⟩ T.sa ?_
  refine le_store I.kIn ho hcl rfl rfl hno (fun h' tk' dx kp big dne hx hns => ?_)
  have free : H dx = none := I.hok.fresh big
  have offD : ∀ {b : Addr} {o : Obj}, hp.get? b = some o → b ≠ dx := fun {b o} z => Nat.ne_of_lt (Nat.lt_of_lt_of_le (Heap.lt_size z) big)
  have offA : ∀ {b : Addr}, H b = none → b ≠ a := fun {b} n z => by rw [z, e] at n; cases n
  have two : ∀ {b : Addr} {o : HO}, H b = some o → exo a C none ≠ o → (upd (upd H dx (exd dx [(f, y)])) a (exo a C (some dx))) b = some o := fun {b o} z ne => by
    rw [upd_ne (at_ne e z ne), upd_ne (ne_of_none z free)]; exact z
  have step : Un X.fs [] H (upd (upd H dx (exd dx [(f, y)])) a (exo a C (some dx))) hp h' :=
    { keep := fun b o z n _ _ => kp b o (offA n) z
      slot := fun b o z n _ _ => ⟨o.slots, kp b o (offA n) z⟩
      free := fun b o z n _ => by rw [upd_ne (offA n), upd_ne (offD z)]; exact n
      there := fun b o z _ => by
        by_cases hb : b = a
        · subst hb; exact ⟨_, hx⟩
        · exact ⟨o, kp b o hb z⟩
      tups := fun b xs z => two z exo_tup
      frzs := fun b o v z => two z exo_frz
      tbls := fun b ps z => ⟨#[], by rw [two z exo_tbl]; simp⟩ }
  refine fin dx _ free dne (I.un (t' := tk') step fun b o z => ?_)
  by_cases hb : b = a
  · subst hb
    rw [upd_same] at z
    cases z
    exact exo_ok hx
  · rw [upd_ne hb] at z
    by_cases hd : b = dx
    · subst hd
      rw [upd_same] at z
      cases z
      exact exd_ok hns (relO_put (fs := []) ry fun _ => True.intro)
    · rw [upd_ne hd] at z
      refine (I.hok b o z).stay (fun c v hc zz => kp c v ?_ zz) (fun c hc => two hc exo_own) (fun c xs hc => two hc exo_tup)
      rcases hc with hc | hc
      · rw [hc]; exact hb
      · exact at_ne e hc exo_own
end
def tOstL (K : PySem.W.Frag) (f : Str) (to te : TE) : TS := fun D σ H => te σ H fun y H1 => to σ H1 fun x H2 => ∃ a C : Addr, x = .ref a ∧ OeL K C ∧ PySem.W.findIn K (.ref C) f = some none ∧ H2 a = some (exo a C none) ∧
  ∀ dx, H2 dx = none → dx ≠ a → D.nx σ (upd (upd H2 dx (exd dx [(f, y)])) a (exo a C (some dx)))
section
variable {X : Cx} {o e : Expr} {es : List Expr} {to te : TE} {ta : TA} {f x : Str} {p p' pos : Pos}
theorem ps_ostL (ho : PE X o to) (he : PE X e te) (hs : swapsWith e (some (.Attribute o f p')) pos.line X.env = pure false := by rfl) : PS X (.Assign [.Attribute o f p'] e pos) (tOstL X.K f to te) := by
  refine ⟨fun pins s σ H D I h => plainObj_wpAny_Assign_Attribute (thn (he.run pins s σ H _ I h) fun v s1 r1 => ?_) hs⟩
  obtain ⟨y, H1, I1, ry, q1⟩ := r1
  refine thn (ho.run pins s1 σ H1 _ I1 q1) fun u s2 r2 => ?_
  obtain ⟨z, H2, I2, rz, a, C, ez, T, hno, ea, q⟩ := r2
  subst ez
  cases (show u = Value.ref a from rz)
  exact le_put T I2 ea hno ry fun dx s' n ne J => ⟨σ, _, J, q dx n ne⟩
theorem pmk_le {C fI : Addr} {k : Nat} {fd : FuncData} {ps : List Str} {sp : Sp} (T : OeL X.K C) (iC : PySem.W.findIn X.K (.ref C) "__init__" = some (some (.ref fI))) (tI : PySem.W.typeIn X.K (.ref fI) = some (.type "function"))
    (F1 : FnOk X.prog X.w X.K X.mg X.base CX0 k fI fd ps sp) (hr : Room (k + 1) X.A) (hb : Binds X.K fd ps []) (hg : Gl X x) (hm : X.mg x = some (.ref C)) (ha : PA X (e :: es) ta)
    (hdb : (x == ("__debug__" : Str)) = false := by decide) (he : starEach (e :: es) X.env = (false, eval e X.env) :: starEach es X.env := by rfl) (hpl : (backTo pos (starEach es X.env)).any (·.1) = false := by rfl) :
    PMk X (.Call (.Name x p) (e :: es) [] pos) (tMkO C sp [] ta) := by
  intro pins s σ H Q I h
  obtain ⟨nm, qn, N, bs, sn, sub, ab, col, dd, k0, k1, k2, k3, k5, hC⟩ := T.cls
  refine wpAny_Call_Name_kw (ld_glob I hg hm ?_ hdb)
  refine PySem.W.callWith_K (h₀ := X.base) I.ok.mod.kin T.kC (thn (ha.run pos pins s σ H _ I h) fun us s1 got => ?_) he hpl
  obtain ⟨vs, H1, I1, r1, hz, q1⟩ := got
  refine ⟨I1.kIn, ?_⟩
  show wpAny _ _ (call (.ref C) us) _ _ _
  obtain ⟨hp, g, dr, tk, os⟩ := s1
  have new : H1 (hp.objs.size + 1) = none := I1.hok.fresh (Nat.le_succ _)
  have kk : ∀ b o, hp.get? b = some o → ((hp.push (PySem.W.kdv_tup us)).push (PySem.HandSPX.excO C hp.objs.size)).get? b = some o := fun b o z => Heap.get?_push_of_some _ (Heap.get?_push_of_some _ z)
  have there : ((hp.push (PySem.W.kdv_tup us)).push (PySem.HandSPX.excO C hp.objs.size)).get? (hp.objs.size + 1) = some (PySem.HandSPX.excO C hp.objs.size) := by heap_get
  have I2 : Inv X pins σ (upd H1 (hp.objs.size + 1) (exo (hp.objs.size + 1) C none)) ⟨(hp.push (PySem.W.kdv_tup us)).push (PySem.HandSPX.excO C hp.objs.size), g, dr, tk, os⟩ :=
    I1.laid (t' := tk) (a := hp.objs.size + 1) (o := exo (hp.objs.size + 1) C none) (h' := (hp.push (PySem.W.kdv_tup us)).push (PySem.HandSPX.excO C hp.objs.size)) kk (Nat.le_succ _) (exo_ok there)
  have want := q1 (hp.objs.size + 1) new
  have rel : Vals (V.ref (hp.objs.size + 1) :: (vs ++ [])) (Value.ref (hp.objs.size + 1) :: (us ++ [])) := .cons rfl (r1.append .nil)
  have len : (Value.ref (hp.objs.size + 1) :: us ++ []).length = ps.length := by
    have z := rel.length
    rw [F1.len _ _ _ _ want] at z
    exact z.symm
  have few : us.length ≤ sizeLine := by
    rw [← Paired.length r1, sizeLine_eq]
    omega
  refine wpAny_call (PySem.HandSPX.call_own PySem.F.excBase_LookupError (fun _ => rfl) (I1.kIn _ _ hC) (PySem.W.looks_findIn I1.kIn iC) (fun self => PySem.W.bind_fn I1.kIn self tI) few ?_)
  have bnd := hb _ (Value.ref (hp.objs.size + 1) :: us) I2.kIn len
  rw [List.cons_append] at bnd
  refine codeAny_mono (F1.run _ X.stack _ _ ⟨Value.ref (hp.objs.size + 1) :: us, []⟩ (Value.ref (hp.objs.size + 1) :: (us ++ [])) _ _ (fun _ _ _ => False) (hr.make C us []) (I2.env0.make C us []) bnd rel want) fun rr s' done => ?_
  cases rr with
  | error er => exact done.elim
  | ok fl =>
    cases fl with
    | next => exact done.elim
    | brk => exact done.elim
    | cont => exact done.elim
    | ret u =>
      obtain ⟨v, H2, os2, bare2, un2, hok2, rv, ev, dx, fs, ea, ed, hd1, q2⟩ := done
      subst ev
      obtain ⟨h2, g2, d2, t2, os'⟩ := s'
      exact ⟨rv, mk_end (raises_own T.exC T.tyC) I1 (Nat.le_succ _) kk un2 hok2 os2 bare2 ea ed hd1 q2⟩
end
structure XL (K : PySem.W.Frag) (C fI : Addr) (fld : Str) : Prop where
  T : OeL K C
  iC : PySem.W.findIn K (.ref C) "__init__" = some (some (.ref fI))
  tI : PySem.W.typeIn K (.ref fI) = some (.type "function")
  no : PySem.W.findIn K (.ref C) fld = some none
  rd : XfC K C
theorem xl1B_ok {K : PySem.W.Frag} {C fI : Addr} {fld : Str} (h : xf1B K C fI fld = true) (c : ∃ nm q N bs sn sub ab col dd k0 k1 k2 k3 k5, K.lookup C = some (excClassObj nm q C N bs LEbm true sn sub ab col dd k0 k1 k2 k3 k5 "LookupError.__new__")) : XL K C fI fld := by
  simp only [xf1B, Bool.and_eq_true, decide_eq_true_eq] at h
  obtain ⟨h1, h2, h3, h4, h5, h6, h7, h8⟩ := h
  exact ⟨⟨c, h1, h2, h3, h4⟩, h5, h6, h7, xfB_ok h8⟩
end Pv
namespace Pv
open PySem PySem.Spec PyProof.Rows L2
/-! several clauses, each with a name for the error -/
abbrev Clause := Value × Nat × (Addr → Value → Option Addr → TS)
def endsOf (D : Ends) (i : Nat) : Ends := { nx := fun σ H => D.nx (σ.set i none) H, rt := D.rt, bk := fun σ H => D.bk (σ.set i none) H, ct := fun σ H => D.ct (σ.set i none) H }
def wClauses (K : PySem.W.Frag) (Wout : WX) (D : Ends) : List Clause → WX
  | [] => Wout
  | (c, i, ts) :: r => fun cls d σ H => ∃ b, PySem.W.exmOne K cls c = some b ∧ (b = true → ∀ a, H a = none → ts a cls d (endsOf D i) (σ.set i (some (.ref a))) H) ∧ (b = false → wClauses K Wout D r cls d σ H)
inductive Clauses (X : Cx) : List ExceptHandler → List Clause → Prop
  | nil : Clauses X [] []
  | cons {x n : Str} {c : Value} {i : Nat} {ts : Addr → Value → Option Addr → TS} {b₀ : Stmt} {suite : List Stmt} {np pos' : Pos} {hds : List ExceptHandler} {l : List Clause} (hi : X.N[i]? = some n) (hl : X.env.kindOf n = some .local) (hc : Names X x c)
      (hsu : ∀ (a : Addr) (oe : Obj) (cls : Value) (d : Option Addr) (pn : List (Addr × Obj)), Zc cls d oe → (∃ vs, oe.data = .fields vs) → PSs (X.suite a ((a, oe) :: pn)) (b₀ :: suite) (ts a cls d)) (r : Clauses X hds l) :
      Clauses X (.ExceptHandler (some (.Name x np)) (some n) (b₀ :: suite) pos' :: hds) ((c, i, ts) :: l)
section
variable {X : Cx} {body : List Stmt} {h₀ : ExceptHandler} {hds : List ExceptHandler} {l : List Clause} {pos : Pos} {tb : WX → TS} {Wout : WX}
end
/-! a call of one of several defs, whichever the expression hands out -/
structure Callee (P : Program) (w : World) (K : PySem.W.Frag) (mg : Str → Option Value) (base : Heap) (CX : CXT) (k : Nat) (f : Addr) (sp : Sp) : Prop where
  ok : ∃ fd ps, FnOk P w K mg base CX k f fd ps sp ∧ Binds K fd ps []
  kp : PySem.W.keepIn K (.ref f) = true
def tCallV (tbl : List (Addr × Sp)) (E : L2.St → XK) (tf : TE) (t : TA) : TE := fun σ H Q => tf σ H fun x H1 => ∃ (f : Addr) (sp : Sp), (f, sp) ∈ tbl ∧ x = .ref f ∧ t σ H1 fun vs H2 => sp vs H2 Q (E σ)
end Pv
namespace Pv
open PySem PySem.Spec PyProof.Rows L2
/-! an error with two fields of its own -/
def spI2 (C : Addr) (f1 f2 : Str) : Sp := fun vs H Q _ => ∃ (a : Addr) (v w : V), vs = [.ref a, v, w] ∧ H a = some (exo a C none) ∧ ∀ dx, H dx = none → dx ≠ a → Q .non (upd (upd H dx (exd dx [(f2, w), (f1, v)])) a (exo a C (some dx)))
theorem mkO2 {C : Addr} {f1 f2 : Str} {v w : V} {H1 : Hp} {Q : XK} (h : ∀ d, H1 d = none → Q (.ref C) (some d) (upd H1 d (.xd [(f2, w), (f1, v)]))) :
    [v, w].length ≤ 1000 ∧ ∀ a, H1 a = none → spI2 C f1 f2 (.ref a :: ([v, w] ++ [])) (upd H1 a (exo a C none))
      (fun v' H2 => v' = .non ∧ ∃ (d : Addr) (fs : List (Str × V)), H2 a = some (exo a C (some d)) ∧ H2 d = some (exd d fs) ∧ H1 d = none ∧ Q (.ref C) (some d) (upd (del H2 a) d (.xd fs))) (fun _ _ _ => False) := by
  refine ⟨by simp, fun a na => ⟨a, v, w, rfl, upd_same, fun dx nd ne => ⟨rfl, dx, [(f2, w), (f1, v)], upd_same, ?_, ?_, ?_⟩⟩⟩
  · rw [upd_ne ne]; exact upd_same
  · rw [upd_ne ne] at nd; exact nd
  · have nd1 : H1 dx = none := by rw [upd_ne ne] at nd; exact nd
    have e : upd (del (upd (upd (upd H1 a (exo a C none)) dx (exd dx [(f2, w), (f1, v)])) a (exo a C (some dx))) a) dx (.xd [(f2, w), (f1, v)]) = upd H1 dx (.xd [(f2, w), (f1, v)]) := by
      funext b
      by_cases hb : b = dx
      · rw [hb, upd_same, upd_same]
      · rw [upd_ne hb, upd_ne hb]
        by_cases ha : b = a
        · rw [ha, del_same, na]
        · rw [del_ne ha, upd_ne ha, upd_ne hb, upd_ne ha]
    rw [e]
    exact h dx nd1
structure XF2 (K : PySem.W.Frag) (C fI : Addr) (f1 f2 : Str) : Prop where
  T : OexC K C
  iC : PySem.W.findIn K (.ref C) "__init__" = some (some (.ref fI))
  tI : PySem.W.typeIn K (.ref fI) = some (.type "function")
  no1 : PySem.W.findIn K (.ref C) f1 = some none
  no2 : PySem.W.findIn K (.ref C) f2 = some none
  rd : XfC K C
def xf2B (K : PySem.W.Frag) (C fI : Addr) (f1 f2 : Str) : Bool := xf1B K C fI f1 && decide (PySem.W.findIn K (.ref C) f2 = some none)
theorem xf2B_ok {K : PySem.W.Frag} {C fI : Addr} {f1 f2 : Str} (h : xf2B K C fI f1 f2 = true) (c : ∃ nm q N bs bm sn sub ab col dd k0 k1 k2 k3 k5, K.lookup C = some (excClassObj nm q C N bs bm true sn sub ab col dd k0 k1 k2 k3 k5 "ValueError.__new__") ∧ PySem.HandSPX.refsVE bm = true) : XF2 K C fI f1 f2 := by
  simp only [xf2B, Bool.and_eq_true, decide_eq_true_eq] at h
  have x := xf1B_ok h.1 c
  exact ⟨x.T, x.iC, x.tI, x.no, h.2, x.rd⟩
end Pv
namespace Pv
open PySem PySem.Spec PyProof.Rows L2
def topS (i : Nat) : Stmt := PySem.Challenge.pw_postvote_k60_benches_made_and_parts_set.main.body.getD i (.Pass ⟨0, 0, 0, 0⟩)
abbrev sSt : Stmt := topS 71
theorem scSt : FnScope ["_law_script", "_law_turn", "_law_cell", "_law_rest"] ["_law_script", "_law_turn"] (defScope sSt) := ⟨rfl, rfl, rfl, by decide +kernel, rfl, by decide +kernel, by decide +kernel⟩
abbrev sTa : Stmt := topS 72
theorem scTa : FnScope ["_law_stream_here", "_law_many", "_law_found", "_law_low", "_law_high", "_law_turn", "_law_mixed"] ["_law_stream_here", "_law_many"] (defScope sTa) := ⟨rfl, rfl, rfl, by decide +kernel, rfl, by decide +kernel, by decide +kernel⟩
/-- the stream of draws: at most t mixed numbers so far -/
def DT (H : Hp) (st : Addr) (t : Nat) : Prop := ∃ (rest mix : Int) (u : Nat), H st = some (.lst [.int rest, .int mix, .int (u : Nat)]) ∧ 0 ≤ rest ∧ 0 ≤ mix ∧ mix < 2305843009213693951 ∧ u ≤ t
/-- all objects but the one at st are kept -/
def Ex1 (st : Addr) (H H' : Hp) : Prop := ∀ b o, H b = some o → b ≠ st → H' b = some o
theorem Ex1.trans {st : Addr} {H H1 H2 : Hp} (a : Ex1 st H H1) (b : Ex1 st H1 H2) : Ex1 st H H2 := fun x o h n => b x o (a x o h n) n
theorem Ex1.of {st : Addr} {H H1 : Hp} (s : Same H H1) : Ex1 st H H1 := fun b o h _ => s b o h
theorem Ex1.refl {st : Addr} {H : Hp} : Ex1 st H H := fun _ _ h _ => h
theorem DT.same {H H1 : Hp} {st : Addr} {t : Nat} (d : DT H st t) (s : Same H H1) : DT H1 st t := by
  obtain ⟨r, m, u, e, h⟩ := d
  exact ⟨r, m, u, s _ _ e, h⟩
theorem DT.new {H : Hp} {st p : Addr} {o : HO} {t : Nat} (d : DT H st t) (np : H p = none) : DT (upd H p o) st t := d.same (sameNew np)
theorem DT.off {H : Hp} {st p : Addr} {t : Nat} (d : DT H st t) (np : H p = none) : p ≠ st := by
  obtain ⟨r, m, u, e, _⟩ := d
  exact fun z => by rw [z, e] at np; cases np
theorem DT.put {H : Hp} {st p : Addr} {o : HO} {t : Nat} (d : DT H st t) (h : p ≠ st) : DT (upd H p o) st t := by
  obtain ⟨r, m, u, e, h'⟩ := d
  exact ⟨r, m, u, by rw [upd_ne h.symm]; exact e, h'⟩
theorem DT.mono {H : Hp} {st : Addr} {t t' : Nat} (d : DT H st t) (h : t ≤ t') : DT H st t' := by
  obtain ⟨r, m, u, e, h1, h2, h3, h4⟩ := d
  exact ⟨r, m, u, e, h1, h2, h3, Nat.le_trans h4 h⟩
theorem Ex1.nil {st p : Addr} {t : Nat} {H H1 : Hp} (x : Ex1 st H H1) (d : DT H1 st t) (np : H1 p = none) : H p = none := by
  cases e : H p with
  | none => rfl
  | some z => rw [x _ _ e (d.off np)] at np; cases np
theorem Ex1.put {st p : Addr} {H H1 : Hp} {o : HO} (x : Ex1 st H H1) (np : H p = none) : Ex1 st H (upd H1 p o) := fun b z e n => by rw [upd_ne (ne_of_none e np)]; exact x b z e n
theorem Ex1.tup {st : Addr} {t : Nat} {H H1 : Hp} (x : Ex1 st H H1) (d : DT H st t) : TupK H H1 := by
  obtain ⟨r, m, u, e, _⟩ := d
  intro b xs
  refine ⟨fun h => x b _ h fun z => ?_, fun v h => x b _ h fun z => ?_⟩
  · rw [z, e] at h; cases h
  · rw [z, e] at h; cases h
theorem sameNone {H H1 : Hp} {b : Addr} (s : Same H H1) (h : H1 b = none) : H b = none := by
  cases e : H b with
  | none => rfl
  | some z => rw [s b z e] at h; cases h
def spTa : Sp := fun vs H Q _ => ∃ (st : Addr) (t : Nat) (m : Int), vs = [.ref st, .int m] ∧ DT H st t ∧ t < 1000000 ∧ 0 < m ∧ m ≤ 2 ^ 60 ∧
  ∀ (H' : Hp) (d : Int), 0 ≤ d → d < m → DT H' st (t + 1) → Ex1 st H H' → Q (.int d) H'
def spSt (K : PySem.W.Frag) : Sp := fun vs H Q _ => ∃ (a : Addr) (ns : List Int) (k : Nat), vs = [.ref a, .int (k : Nat)] ∧ SqL K H a (ns.map V.int) ∧ ns.length ≤ 63 ∧ k ≤ 1000 ∧
  ∀ H' st, Same H H' → H st = none → DT H' st 0 → Q (.ref st) H'
section
variable {P : Program} {w : World} {K : PySem.W.Frag} {mg : Str → Option Value} {base : Heap}
set_option maxHeartbeats 16000000 in
theorem ok_Ta {f : Addr} {fd : FuncData} (F : Fun K "_law_take" "_law_take" sTa f fd)
     :
    FnOk P w K mg base CX0 1 f fd ["_law_stream_here", "_law_many"] spTa := by
  refine F.ok scTa (fun vs H Q E h => ?_) (fun cdv A outer s H vs Q E hr h => ?_)
  · obtain ⟨st, t, m, rfl, _⟩ := h; rfl
  · obtain ⟨st, t, m, rfl, hd, ht, hm, hm2, q⟩ := h
    refine ⟨_, pss_cons (ps_if (pt_cmpR op_gt (pe_ix ix_list (pv 0) (pe_int) (fun _ _ => rfl)) (pe_int) (nomark _))
        (pss_cons (ps_set (i := 2) scTa.nd rfl (.inl rfl) (pe_op op_mod (pe_ix ix_list (pv 0) (pe_int) (fun _ _ => rfl)) (pv 1)))
        (pss_cons (ps_asg (pe_op op_fdivW (pe_ix ix_list (pv 0) (pe_int) (fun _ _ => rfl)) (pv 1)) (pg_sub (pv 0) (pe_int) set_list))
        (pss_one (ps_ret (pv 2))))) pss_nil)
      (pss_cons (ps_asg (pe_op op_add (pe_ix ix_list (pv 0) (pe_int) (fun _ _ => rfl)) (pe_int)) (pg_sub (pv 0) (pe_int) set_list))
      (pss_cons (ps_par (i := 3) (j := 4) rfl scTa.nd rfl rfl (by decide) rfl rfl (pa_cons (pe_op op_mod (pe_ix ix_list (pv 0) (pe_int) (fun _ _ => rfl)) (pe_int)) (pa_cons (pe_op op_fdivW (pe_ix ix_list (pv 0) (pe_int) (fun _ _ => rfl)) (pe_int)) pa_nil)) rfl)
      (pss_cons (ps_set (i := 5) scTa.nd rfl (.inl rfl) (pe_ix ix_list (pv 0) (pe_int) (fun _ _ => rfl)))
      (pss_cons (ps_set (i := 6) scTa.nd rfl (.inl rfl) (pe_op op_add (pe_op op_mul (pv 3) (pe_op op_add (pe_int) (pe_op op_mul (pe_int) (pv 5)))) (pe_op op_mul (pv 4) (pe_int))))
      (pss_cons (ps_set (i := 6) scTa.nd rfl (.inl rfl) (pe_op op_mod (pe_op op_add (pv 6) (pe_op op_mul (pe_op op_mul (pv 5) (pv 5)) (pe_int))) (pe_int)))
      (pss_cons (ps_set (i := 6) scTa.nd rfl (.inl rfl) (pe_op op_mod (pe_op op_mul (pe_op op_mod (pe_op op_mul (pv 6) (pv 6)) (pe_int)) (pe_op op_add (pv 6) (pe_int))) (pe_int)))
      (pss_one (ps_ret (pe_op op_mod (pe_op op_fdiv (pe_op op_add (pe_op op_mul (pv 6) (pe_int)) (pe_op op_mod (pe_op op_mul (pv 6) (pv 6)) (pe_int))) (pe_int)) (pv 1)))))))))), ?_⟩
    obtain ⟨rest, mix, u, eS, r0, m0, m1, hu⟩ := hd
    refine ⟨.ref st, rfl, st, _, 0, .int rest, rfl, rfl, SqL.of eS, atI_nat (j := 0) rfl, _, _, rfl, rfl, _, rfl, ite2 (fun hgt => ?_) (fun hle => ?_)⟩
    · refine ⟨.ref st, rfl, st, _, 0, .int rest, rfl, rfl, SqL.of eS, atI_nat (j := 0) rfl, .int m, rfl, _, _, rfl, rfl, hm, ?_⟩
      refine ⟨.ref st, rfl, st, _, 0, .int rest, rfl, rfl, SqL.of eS, atI_nat (j := 0) rfl, .int m, rfl, _, _, rfl, rfl, wide_div (b := 61) hm (by omega) (by decide) (by decide), ?_⟩
      refine ⟨.ref st, rfl, st, _, 0, 0, rfl, rfl, eS, rfl, ?_⟩
      refine ⟨_, rfl, q _ _ (Int.emod_nonneg _ (by omega)) (Int.emod_lt_of_pos _ hm) ⟨rest / m, mix, u, upd_same, Int.ediv_nonneg r0 (by omega), m0, m1, by omega⟩ fun b o h n => by rw [upd_ne n]; exact h⟩
    · refine ⟨.ref st, rfl, st, _, 2, .int (u : Nat), rfl, rfl, SqL.of eS, atI_nat (j := 2) rfl, _, _, rfl, rfl, ?_⟩
      refine ⟨.ref st, rfl, st, _, 2, 2, rfl, rfl, eS, rfl, ?_⟩
      have e2 : (upd H st (.lst [.int rest, .int mix, .int ((u : Nat) + 1 : Int)])) st = some (.lst [.int rest, .int mix, .int ((u : Nat) + 1 : Int)]) := upd_same
      have xx : Ex1 st H (upd H st (.lst [.int rest, .int mix, .int ((u : Nat) + 1 : Int)])) := fun b o h n => by rw [upd_ne n]; exact h
      have d2 : DT (upd H st (.lst [.int rest, .int mix, .int ((u : Nat) + 1 : Int)])) st (t + 1) := ⟨rest, mix, u + 1, by rw [upd_same]; simp, r0, m0, m1, by omega⟩
      show _
      dsimp only [List.set]
      generalize upd H st (.lst [.int rest, .int mix, .int ((u : Nat) + 1 : Int)]) = H1 at e2 xx d2 ⊢
      refine ⟨.ref st, rfl, st, _, 1, .int mix, rfl, rfl, SqL.of e2, atI_nat (j := 1) rfl, _, _, rfl, rfl, (by show (0 : Int) < 2147483647; decide), ?_⟩
      refine ⟨.ref st, rfl, st, _, 1, .int mix, rfl, rfl, SqL.of e2, atI_nat (j := 1) rfl, _, _, rfl, rfl, wide_div (b := 32) (by decide) (by decide) (by decide) (by decide), _, _, rfl, ?_⟩
      dsimp only
      have lo0 : 0 ≤ mix % 2147483647 := Int.emod_nonneg _ (by decide)
      have lo1 : mix % 2147483647 < 2147483647 := Int.emod_lt_of_pos _ (by decide)
      have hi0 : 0 ≤ mix / 2147483647 := Int.ediv_nonneg m0 (by decide)
      have hi1 : mix / 2147483647 < 2147483648 := by omega
      generalize mix % 2147483647 = lo at lo0 lo1 ⊢
      generalize mix / 2147483647 = hi at hi0 hi1 ⊢
      refine ⟨.ref st, rfl, st, _, 2, .int ((u : Nat) + 1 : Int), rfl, rfl, SqL.of e2, atI_nat (j := 2) rfl, ?_⟩
      generalize hw : ((u : Nat) : Int) + 1 = tn at e2 ⊢
      have tn0 : 1 ≤ tn ∧ tn ≤ 1000001 := by omega
      refine ⟨.int lo, rfl, .int tn, rfl, _, _, rfl, rfl, .inl ⟨by decide, by decide⟩, _, _, rfl, rfl, _, _, rfl, rfl, .inl ⟨by omega, by omega⟩, .int hi, rfl, _, _, rfl, rfl, .inl ⟨by omega, by omega⟩, _, _, rfl, rfl, ?_⟩
      dsimp only
      generalize lo * (48271 + 16807 * tn) + hi * 69621 = x1
      refine ⟨.int x1, rfl, .int tn, rfl, .int tn, rfl, _, _, rfl, rfl, .inl ⟨by omega, by omega⟩, _, _, rfl, rfl, .inr ⟨by decide, by decide⟩, _, _, rfl, rfl, _, _, rfl, rfl, (by show (0 : Int) < 2147483647; decide), ?_⟩
      dsimp only
      have y0 : 0 ≤ (x1 + tn * tn * 40692) % 2147483647 := Int.emod_nonneg _ (by decide)
      have y1 : (x1 + tn * tn * 40692) % 2147483647 < 2147483647 := Int.emod_lt_of_pos _ (by decide)
      generalize (x1 + tn * tn * 40692) % 2147483647 = x2 at y0 y1 ⊢
      refine ⟨.int x2, rfl, .int x2, rfl, _, _, rfl, rfl, .inl ⟨by omega, by omega⟩, _, _, rfl, rfl, (by show (0 : Int) < 2147483647; decide), .int x2, rfl, _, _, rfl, rfl, _, _, rfl, rfl, .inr ⟨by omega, by omega⟩, _, _, rfl, rfl, (by show (0 : Int) < 2147483647; decide), ?_⟩
      dsimp only
      have z0 : 0 ≤ x2 * x2 % 2147483647 * (x2 + 1618033) % 2147483647 := Int.emod_nonneg _ (by decide)
      have z1 : x2 * x2 % 2147483647 * (x2 + 1618033) % 2147483647 < 2147483647 := Int.emod_lt_of_pos _ (by decide)
      generalize x2 * x2 % 2147483647 * (x2 + 1618033) % 2147483647 = x3 at z0 z1 ⊢
      refine ⟨.int x3, rfl, _, _, rfl, rfl, .inl ⟨by omega, by omega⟩, .int x3, rfl, .int x3, rfl, _, _, rfl, rfl, .inl ⟨by omega, by omega⟩, _, _, rfl, rfl, (by show (0 : Int) < 1073741789; decide), _, _, rfl, rfl, _, _, rfl, rfl, ⟨by decide, by decide⟩, .int m, rfl, _, _, rfl, rfl, hm, ?_⟩
      exact q _ _ (Int.emod_nonneg _ (by omega)) (Int.emod_lt_of_pos _ hm) d2 xx
set_option maxHeartbeats 16000000 in
theorem ok_St {f : Addr} {fd : FuncData} (F : Fun K "_law_stream" "_law_stream" sSt f fd)
    (m_len : mg "len" = none) :
    FnOk P w K mg base CX0 1 f fd ["_law_script", "_law_turn"] (spSt K) := by
  refine F.ok scSt (fun vs H Q E h => ?_) (fun cdv A outer s H vs Q E hr h => ?_)
  · obtain ⟨a, ns, k, rfl, _⟩ := h; rfl
  · obtain ⟨a, ns, k, rfl, hS, hn, hk, q⟩ := h
    refine ⟨_, pss_cons (ps_set (i := 2) scSt.nd rfl (.inl rfl) (pe_int))
      (C8.pss_cut (ps_if (pt_cmpR op_gt (pe_callB call_lenQ (by rfl) m_len PySem.boot_len (pa_cons (pv 0) pa_nil)) (pe_int) (nomark _))
        (pss_one (ps_set (i := 2) scSt.nd rfl (.inl rfl) (pe_ix ix_list (pv 0) (pe_op op_mod (pv 1) (pe_callB call_lenQ (by rfl) m_len PySem.boot_len (pa_cons (pv 0) pa_nil))) (fun _ _ => rfl)))) pss_nil)
      (C8.pss_cut (ps_if (pt_cmpR op_lt (pv 2) (pe_int) (nomark _))
        (pss_one (ps_set (i := 2) scSt.nd rfl (.inl rfl) (pe_op op_sub (pe_int) (pe_op op_mul (pe_int) (pv 2))))) pss_nil)
      (pss_cons (ps_set (i := 3) scSt.nd rfl (.inl rfl) (pe_int))
      (C8.pss_cut (ps_if (pt_cmpR op_ge (pv 2) (pe_op op_pow (pe_int) (pe_int)) (nomark _))
        (pss_one (ps_set (i := 3) scSt.nd rfl (.inl rfl) (pv 2))) pss_nil)
      (pss_one (ps_ret (pe_lst (pa_cons (pv 3) (pa_cons (pe_op op_mod (pe_op op_add (pe_op op_add (pe_op op_mod (pv 2) (pe_int)) (pe_op op_mul (pe_op op_mul (pe_int) (pv 1)) (pv 1))) (pe_int)) (pe_int)) (pa_cons (pe_int) pa_nil)))))))))), ?_⟩
    have hlen : (ns.map V.int).length = ns.length := List.length_map ..
    refine ⟨fun σ' H' => ∃ c : Int, σ' = [some (.ref a), some (.int (k : Nat)), some (.int c), none] ∧ Same H H', ?_, ?_⟩
    · refine ⟨.ref a, rfl, a, _, rfl, .inl hS, _, _, rfl, rfl, _, rfl, ite2 (fun h1 => ?_) (fun h1 => ⟨0, rfl, Same.refl _⟩)⟩
      have hp : 0 < ns.length := by have := of_decide_eq_true h1; rw [hlen] at this; omega
      have hk2 : ((k : Nat) : Int) % ((ns.map V.int).length : Nat) = ((k % ns.length : Nat) : Int) := by rw [hlen]; norm_cast
      have hlt : k % ns.length < ns.length := Nat.mod_lt _ hp
      refine ⟨.ref a, rfl, .int (k : Nat), rfl, .ref a, rfl, a, _, rfl, .inl hS, _, _, rfl, rfl, by rw [hlen]; omega, ?_⟩
      dsimp only
      rw [hk2]
      exact ⟨a, _, _, .int (ns[k % ns.length]), rfl, rfl, hS, atI_nat (by rw [List.getElem?_map, List.getElem?_eq_getElem hlt]; rfl), _, rfl, Same.refl _⟩
    rintro σ' H1 ⟨c, rfl, s1⟩
    refine ⟨fun σ' H' => ∃ c : Int, 0 ≤ c ∧ σ' = [some (.ref a), some (.int (k : Nat)), some (.int c), none] ∧ Same H H', ?_, ?_⟩
    · refine ⟨.int c, rfl, _, _, rfl, rfl, _, rfl, ite2 (fun h1 => ?_) (fun h1 => ⟨c, by have := of_decide_eq_false (Bool.eq_false_iff.mpr h1); omega, rfl, s1⟩)⟩
      have := of_decide_eq_true h1
      refine ⟨.int c, rfl, _, _, rfl, rfl, .inl ⟨by decide, by decide⟩, _, _, rfl, rfl, _, ?_, rfl, s1⟩
      omega
    rintro σ' H2 ⟨c, c0, rfl, s2⟩
    refine ⟨fun σ' H' => ∃ z : Int, 0 ≤ z ∧ σ' = [some (.ref a), some (.int (k : Nat)), some (.int c), some (.int z)] ∧ Same H H', ?_, ?_⟩
    · refine ⟨.int c, rfl, _, _, rfl, rfl, ⟨by decide, by decide, by decide⟩, _, _, rfl, rfl, _, rfl, ite2 (fun h1 => ⟨.int c, rfl, c, c0, rfl, s2⟩) (fun h1 => ⟨0, Int.le_refl _, rfl, s2⟩)⟩
    rintro σ' H3 ⟨z, z0, rfl, s3⟩
    have e1 : 0 ≤ (c % 2305843009213693951 + 7919 * (k : Nat) * (k : Nat) + 11) % 2305843009213693951 := Int.emod_nonneg _ (by decide)
    have e2 : (c % 2305843009213693951 + 7919 * (k : Nat) * (k : Nat) + 11) % 2305843009213693951 < 2305843009213693951 := Int.emod_lt_of_pos _ (by decide)
    refine ⟨.int z, rfl, .int c, rfl, _, _, rfl, rfl, (by show (0 : Int) < 2305843009213693951; decide), .int (k : Nat), rfl, _, _, rfl, rfl, .inl ⟨by decide, by decide⟩, .int (k : Nat), rfl, _, _, rfl, rfl, .inr ⟨by omega, by omega⟩, _, _, rfl, rfl, _, _, rfl, rfl, _, _, rfl, rfl, (by show (0 : Int) < 2305843009213693951; decide), (show (3 : Nat) ≤ sizeLine by decide), fun st nst => ?_⟩
    exact q _ st (s3.trans (sameNew nst)) (sameNone s3 nst) ⟨z, _, 0, upd_same, z0, e1, e2, Nat.le_refl _⟩
end
end Pv
namespace Pv
open PySem PySem.Spec PyProof.Rows L2
abbrev sWhole : Stmt := topS 7
abbrev sWithin : Stmt := topS 8
abbrev sTupOf : Stmt := topS 9
theorem scWhole : FnScope ["value"] ["value"] (defScope sWhole) := ⟨rfl, rfl, rfl, by decide +kernel, rfl, by decide +kernel, by decide +kernel⟩
theorem scWithin : FnScope ["value", "least", "most"] ["value", "least", "most"] (defScope sWithin) := ⟨rfl, rfl, rfl, by decide +kernel, rfl, by decide +kernel, by decide +kernel⟩
theorem scTupOf : FnScope ["value", "least", "most"] ["value", "least", "most"] (defScope sTupOf) := ⟨rfl, rfl, rfl, by decide +kernel, rfl, by decide +kernel, by decide +kernel⟩
/-! what a value is, by its data -/
def wholeD (d : PyData) : Bool := isInt d && !isBool d
def withinD (a b : Int) : PyData → Bool
  | .int i => decide (a ≤ i ∧ i ≤ b)
  | _ => false
def tupOfD (a b : Int) : PyData → Bool
  | .tuple ds => decide (a ≤ (ds.length : Int) ∧ (ds.length : Int) ≤ b)
  | _ => false
def intsAll : List PyData → Option (List Int)
  | [] => some []
  | .int i :: r => (intsAll r).map (i :: ·)
  | _ :: _ => none
def intsOf : PyData → Option (List Int)
  | .tuple ds => intsAll ds
  | _ => none
theorem intsAll_ints : ∀ row : List Int, intsAll (row.map PyData.int) = some row
  | [] => rfl
  | i :: r => by simp [intsAll, intsAll_ints r]
theorem intsAll_eq : ∀ {ds : List PyData} {row : List Int}, intsAll ds = some row → ds = row.map PyData.int
  | [], row, h => by simp [intsAll] at h; subst h; rfl
  | d :: ds, row, h => by
    cases d <;> simp [intsAll] at h
    obtain ⟨r, h1, rfl⟩ := h
    rw [intsAll_eq h1]; rfl
theorem within_ints : ∀ {ds : List PyData} {a b : Int}, ds.all (withinD a b) = true → ∃ row : List Int, ds = row.map PyData.int ∧ row.all (fun x => decide (a ≤ x ∧ x ≤ b)) = true
  | [], _, _, _ => ⟨[], rfl, rfl⟩
  | d :: ds, a, b, h => by
    rw [List.all_cons, Bool.and_eq_true] at h
    obtain ⟨row, e, h2⟩ := within_ints h.2
    cases d with
    | int i => exact ⟨i :: row, by rw [e]; rfl, by rw [List.all_cons, Bool.and_eq_true]; exact ⟨h.1, h2⟩⟩
    | _ => simp [withinD] at h
section
variable {P : Program} {w : World} {K : PySem.W.Frag} {mg : Str → Option Value} {base : Heap}
def spWhole (K : PySem.W.Frag) : Sp := fun vs H Q _ => ∃ (st r : Addr) (v : V) (d : PyData), vs = [v] ∧ Dq K st r H v d ∧ Q (.bl (wholeD d)) H
theorem ok_whole {f : Addr} {fd : FuncData} {k : Nat} (F : Fun K "is_whole" "is_whole" sWhole f fd) (mi : mg "isinstance" = none) (mint : mg "int" = none) (mb : mg "bool" = none) :
    FnOk P w K mg base CX0 (k + 1) f fd ["value"] (spWhole K) := by
  refine F.ok scWhole (fun vs H Q E h => ?_) (fun cdv A outer s H vs Q E hr h => ?_)
  · obtain ⟨st, r, v, d, rfl, _⟩ := h; rfl
  · obtain ⟨st, r, v, d, rfl, hd, q⟩ := h
    refine ⟨_, pss_one (ps_ret (pe_and (pe_callB call_isi (by rfl) mi (by decide +kernel) (pa_cons (pv 0) (pa_cons (pe_bltn (v := .ty "int") (by rfl) mint (by decide +kernel) rfl) pa_nil)))
      (pe_one (pe_not (pe_callB call_isi (by rfl) mi (by decide +kernel) (pa_cons (pv 0) (pa_cons (pe_bltn (v := .ty "bool") (by rfl) mb (by decide +kernel) rfl) pa_nil))))))), ?_⟩
    refine ⟨v, rfl, v, .ty "int", _, _, _, rfl, .ty _, hd.ty, kit_int d, _, rfl, ite2 (fun h1 => ?_) (fun h1 => ?_)⟩
    · refine ⟨v, rfl, v, .ty "bool", _, _, _, rfl, .ty _, hd.ty, kit_bool d, _, rfl, ?_⟩
      unfold wholeD at q
      rw [h1, Bool.true_and] at q
      exact q
    · unfold wholeD at q
      rw [Bool.eq_false_iff.mpr h1, Bool.false_and] at q
      exact q
def spWithin (K : PySem.W.Frag) : Sp := fun vs H Q _ => ∃ (st r : Addr) (v : V) (d : PyData) (a b : Int), vs = [v, .int a, .int b] ∧ Dq K st r H v d ∧ Q (.bl (withinD a b d)) H
theorem ok_within {f fW : Addr} {fd fdW : FuncData} {k : Nat} (F : Fun K "is_within" "is_within" sWithin f fd) (FW : Fun K "is_whole" "is_whole" sWhole fW fdW) (bW : Binds K fdW ["value"] []) (gW : mg "is_whole" = some (.ref fW))
    (GW : FnOk P w K mg base CX0 1 fW fdW ["value"] (spWhole K)) : FnOk P w K mg base CX0 (1 + k + 1) f fd ["value", "least", "most"] (spWithin K) := by
  refine F.ok scWithin (fun vs H Q E h => ?_) (fun cdv A outer s H vs Q E hr h => ?_)
  · obtain ⟨st, r, v, d, a, b, rfl, _⟩ := h; rfl
  · obtain ⟨st, r, v, d, a, b, rfl, hd, q⟩ := h
    refine ⟨_, pss_one (ps_ret (pe_and (pe_call GW (hr.mono (by omega)) (by rfl) gW FW.kp bW .nil pass0 (pa_cons (pv 0) pa_nil)) (pe_one (pe_chain op_le op_le (pv 1) (pv 0) (pv 2))))), ?_⟩
    refine ⟨v, rfl, st, r, v, d, rfl, hd, _, rfl, ite2 (fun h1 => ?_) (fun h1 => ?_)⟩
    · cases d with
      | int i =>
        cases hd
        refine ⟨.int a, rfl, .int i, rfl, _, _, rfl, rfl, _, rfl, ite2 (fun h2 => ?_) (fun h2 => ?_)⟩
        · refine ⟨.int b, rfl, _, _, rfl, rfl, ?_⟩
          have h2' : a ≤ i := of_decide_eq_true h2
          simpa [withinD, h2'] using q
        · have h2' : ¬ a ≤ i := fun z => h2 (decide_eq_true z)
          simpa [withinD, h2'] using q
      | _ => simp [wholeD, isInt, isBool] at h1
    · cases d with
      | int i => simp [wholeD, isInt, isBool] at h1
      | _ => exact q
def spTupOf (K : PySem.W.Frag) : Sp := fun vs H Q _ => ∃ (st r : Addr) (v : V) (d : PyData) (a b : Int), vs = [v, .int a, .int b] ∧ Dq K st r H v d ∧ Q (.bl (tupOfD a b d)) H
theorem ok_tupOf {f : Addr} {fd : FuncData} {k : Nat} (F : Fun K "is_tuple_of" "is_tuple_of" sTupOf f fd) (mi : mg "isinstance" = none) (mt : mg "tuple" = none) (ml : mg "len" = none) :
    FnOk P w K mg base CX0 (k + 1) f fd ["value", "least", "most"] (spTupOf K) := by
  refine F.ok scTupOf (fun vs H Q E h => ?_) (fun cdv A outer s H vs Q E hr h => ?_)
  · obtain ⟨st, r, v, d, a, b, rfl, _⟩ := h; rfl
  · obtain ⟨st, r, v, d, a, b, rfl, hd, q⟩ := h
    refine ⟨_, pss_one (ps_ret (pe_and (pe_callB call_isi (by rfl) mi (by decide +kernel) (pa_cons (pv 0) (pa_cons (pe_bltn (v := .ty "tuple") (by rfl) mt (by decide +kernel) rfl) pa_nil)))
      (pe_one (pe_chain op_le op_le (pv 1) (pe_callB call_len_seq (by rfl) ml PySem.boot_len (pa_cons (pv 0) pa_nil)) (pv 2))))), ?_⟩
    refine ⟨v, rfl, v, .ty "tuple", _, _, _, rfl, .ty _, hd.ty, kit_tup d, _, rfl, ite2 (fun h1 => ?_) (fun h1 => ?_)⟩
    · cases d with
      | tuple ds =>
        cases hd with
        | @tup p xs _ hT ha =>
          refine ⟨.int a, rfl, .ref p, rfl, p, xs, rfl, .inr hT, _, _, rfl, rfl, _, rfl, ite2 (fun h2 => ?_) (fun h2 => ?_)⟩
          · refine ⟨.int b, rfl, _, _, rfl, rfl, ?_⟩
            have h2' : a ≤ (xs.length : Int) := of_decide_eq_true h2
            simpa [tupOfD, ← DqAll.len ha, h2'] using q
          · have h2' : ¬ a ≤ (xs.length : Int) := fun z => h2 (decide_eq_true z)
            simpa [tupOfD, ← DqAll.len ha, h2'] using q
      | _ => simp [isTup] at h1
    · cases d with
      | tuple ds => simp [isTup] at h1
      | _ => exact q
end
end Pv
/-! sorted(t), set(t), len(set(t)) of a tuple of ints -/
namespace PyProof.Rows
open PySem
section
variable {prog : Program} {w : World} {A : Around} {E : Value → Shared → Prop} {s : Shared}
theorem pv_collectTup {l : Addr} {vs : List Value} {Q : List Value → Shared → Prop} (hl : s.heap.IsTuple l vs.toArray) (hsz : vs.length ≤ sizeLine)
    (h : Q vs { s with heap := (s.heap.push (seqObj "list" #[] 0)).update s.heap.objs.size (Obj.mapSeq (· ++ vs.toArray)) }) : wpAny (model prog w) A (collect (.ref l)) Q E s := by
  obtain ⟨o, ho, hc, n, hd⟩ := id hl
  have ho1 : (s.heap.push (seqObj "list" #[] 0)).get? l = some o := Heap.get?_push_of_some _ ho
  have htt : (Value.type "tuple" == Value.type "tuple") = true := by rfl
  unfold collect; refine wpAny_bind (wpAny_runValue (codeAny_builtin entry_proto_collect' ?_))
  show wpAny _ _ (do again (.builtin "list.__iadd__" ⟨[← newList [], .ref l], []⟩)) _ _ _
  refine wpAny_bind (wpAny_newList (wpAny_pure ⟨Code.quiet_builtin _ (by decide +kernel), codeAny_builtin entry_list_iadd' ?body⟩))
  case body =>
    show wpAny _ _ (Builtin.List.listExtendWith (.ref s.heap.objs.size) (.ref l) (.ref s.heap.objs.size)) _ _ { s with heap := s.heap.push (seqObj "list" #[] 0), toks := s.toks }
    unfold Builtin.List.listExtendWith; refine wpAny_bind (wpAny_typeOf (T := "tuple") ⟨o, ho1, hc⟩ ?_)
    rw [if_pos (by rw [htt]; simp)]; refine wpAny_bind (listItems_at ho1 hd (wpAny_bind (listItems_at (xs := #[]) (n := 0) (Heap.get?_push_size _ rfl) rfl ?_)))
    rw [if_neg (by simp)]; refine wpAny_bind (listUpdate_at (xs := #[]) (n := 0) (Heap.get?_push_size _ rfl) rfl (wpAny_pure ?_) (Nat.zero_le _) (by show (#[] ++ vs.toArray).size ≤ sizeLine + 1; simp only [Array.size_append, List.size_toArray, List.length_nil]; omega))
    show wpAny (model prog w) A (do match (← load s.heap.objs.size).data with | .seq xs _ => pure xs.toList | _ => unsupported "internal:collect") Q E { s with heap := (s.heap.push (seqObj "list" #[] 0)).update s.heap.objs.size (Obj.mapSeq (· ++ vs.toArray)), toks := s.toks }
    refine wpAny_bind (wpAny_load (get?_update_seq (Heap.get?_push_size _ rfl) _) ?_)
    show wpAny _ _ (pure ((#[] : Array Value) ++ vs.toArray).toList) Q E { s with heap := _ }
    rw [show ((#[] : Array Value) ++ vs.toArray).toList = vs by simp]; exact wpAny_pure h
theorem pv_sortedTup {l : Addr} {vs : List Value} {ns : List Int} {Q : Value → Shared → Prop} (hl : s.heap.IsTuple l vs.toArray) (hI : IntsAre vs ns) (h64 : vs.length < 64)
    (h : ∀ (out : Array Value) (ns' : List Int), IntsAre out.toList ns' → ns'.Perm ns → ns'.Pairwise (· ≤ ·) → Q (.ref (s.heap.objs.size + 1)) { s with heap := sortedAll s.heap vs out }) :
    wpAny (model prog w) A (call (.builtin "sorted") [.ref l]) Q E s := by
  refine Calls.call_function_entry kind_sorted plain_sorted entry_sorted (args_sorted1 _) ?tree
  case tree =>
    unfold Builtin.«sorted»; refine wpAny_bind (m := checkCount "sorted" 1 1 _) (wpAny_pure (wpAny_bind (pv_collectTup hl (by rw [sizeLine_eq]; omega) (wpAny_bind (wpAny_newList ?new (by rw [sizeLine_eq]; omega))))))
    case new =>
      have e1 : ((s.heap.push (seqObj "list" #[] 0)).update s.heap.objs.size (Obj.mapSeq (· ++ vs.toArray))).objs.size = s.heap.objs.size + 1 := by rw [Heap.size_update, size_push']
      have e2 : (((s.heap.push (seqObj "list" #[] 0)).update s.heap.objs.size (Obj.mapSeq (· ++ vs.toArray))).push (seqObj "list" vs.toArray 0)).get? (s.heap.objs.size + 1) = some (seqObj "list" vs.toArray 0) := by rw [← e1]; exact Heap.get?_push_size _ rfl
      show wpAny _ _ _ _ _ { s with heap := ((s.heap.push (seqObj "list" #[] 0)).update s.heap.objs.size (Obj.mapSeq (· ++ vs.toArray))).push (seqObj "list" vs.toArray 0), toks := s.toks }
      rw [e1]; exact wpAny_bind (wpAny_holding (wpAny_call_entry slot_list_sort ⟨_, e2, rfl⟩ entry_list_sort (list_sort_tree e2 hI h64 fun out ns' a1 a2 a3 => ⟨_, rfl, wpAny_pure ⟨_, rfl, h out ns' a1 a2 a3⟩⟩) (args_list_sort _)))
end
end PyProof.Rows
namespace Pv
open PySem PySem.Spec PyProof.Rows L2
section
variable {X : Cx}
def rSortedT (K : PySem.W.Frag) : RC := fun vs H Q => ∃ (a : Addr) (ns : List Int), vs = [V.ref a] ∧ SqT K H a (ns.map V.int) ∧ ns.length < 64 ∧
  ∀ (ns' : List Int) (p : Addr), ns'.Perm ns → ns'.Pairwise (· ≤ ·) → H p = none → Q (.ref p) (upd H p (.lst (ns'.map V.int)))
theorem cr_sortedT : CallR X (.builtin "sorted") (rSortedT X.K) := by
  intro pins s σ H vs us Q I rel h
  obtain ⟨a, ns, e, hs, h64, q⟩ := h
  subst e
  obtain ⟨its, rv, ht, hz⟩ := I.tuple hs
  rw [Vals.ref1 rel]
  have hi := rv.ints
  refine pv_sortedTup (show s.heap.IsTuple a its.toArray from ht) hi (by rw [hi.length]; exact h64) ?_
  intro out ns' h1 h2 h3
  obtain ⟨ep, he⟩ := PyProof.Rows.sortedAll_at s.heap its out
  have hlen : (ns'.map V.int).length ≤ sizeLine := by rw [List.length_map, h2.length_eq, sizeLine_eq]; omega
  exact ⟨.ref _, _, I.laid (a := s.heap.objs.size + 1) (o := .lst (ns'.map V.int)) (t' := s.toks) (fun _ _ => PyProof.Rows.sortedAll_old) (Nat.le_succ _) ⟨hlen, out.toList, ep, vals_of_ints h1, he⟩, rfl, q ns' _ h2 h3 (I.hok.fresh (Nat.le_succ _))⟩
def rSetT (w : World) (K : PySem.W.Frag) : RC := fun vs H Q => ∃ (a : Addr) (ns : List Int), vs = [V.ref a] ∧ SqT K H a (ns.map V.int) ∧ ns.length < 60 ∧
  ∀ (p : Addr) (c : Nat), H p = none → (∃ ks : List Int, ks.Nodup ∧ (∀ k, k ∈ ks ↔ k ∈ ns) ∧ ks.length = c) → c ≤ ns.length → Q (.ref p) (upd H p (SetO w p (fun j => decide (j ∈ ns)) c))
theorem cr_setT (hc : X.calm = true) : CallR X (.type "set") (rSetT X.w X.K) := by
  intro pins s σ H vs us Q I rel h
  obtain ⟨a, ns, e, hs, h60, q⟩ := h
  subst e
  obtain ⟨its, rv, ht, hz⟩ := I.tuple hs
  rw [Vals.ref1 rel]
  have hi := rv.ints
  have hsb : scanBound > 61 := by decide
  refine call_set_tupI ns (I.ok.hd hc) (show s.heap.IsTuple a its.toArray from ht) (by simpa using hi) (by omega) ?_
  intro h' tk c R hcn kp
  refine ⟨.ref s.heap.objs.size, _, I.laid (a := s.heap.objs.size) (o := SetO X.w s.heap.objs.size (fun j => decide (j ∈ ns)) c) (t' := tk) kp (Nat.le_refl _) (setO_new R), rfl, q _ c (I.hok.fresh (Nat.le_refl _)) ?_ hcn⟩
  obtain ⟨o, es, ep, t, _, _, _, _, nd, hm, _, _, hn, _⟩ := R
  exact ⟨es.toList.map keyOf, nd, fun k => by rw [← hm k]; simp, by rw [List.length_map, Array.length_toList]; exact hn⟩
def rLenS' (w : World) : RC := fun vs H Q => ∃ (a : Addr) (S : Int → Bool) (n : Nat), vs = [V.ref a] ∧ H a = some (SetO w a S n) ∧ Q (.int n) H
theorem cr_lenSet : CallR X (.builtin "len") (rLenS' X.w) := by
  intro pins s σ H vs us Q I rel h
  obtain ⟨a, S, n, e, ha, q⟩ := h
  subst e
  rw [Vals.ref1 rel]
  obtain ⟨o, es, ep, t, ho, hx, hd, _, _, _, hb, hf, hn, _⟩ := setO_get I ha
  subst hn
  have hsb : scanBound < 2 ^ 62 := by decide
  exact call_len_set ho hx hd hf (by omega) ⟨.int _, H, I.tok _, ⟨_, rfl⟩, q⟩
end
/-! what the size of the set tells -/
theorem len_sub : ∀ {ks ns : List Int}, ks.Nodup → (∀ k ∈ ks, k ∈ ns) → ks.length ≤ ns.length
  | [], _, _, _ => Nat.zero_le _
  | k :: ks, ns, nd, h => by
    obtain ⟨n1, n2⟩ := List.nodup_cons.mp nd
    have hk := h k (by simp)
    have h1 := len_sub (ks := ks) (ns := ns.erase k) n2 (fun x hx => by
      have hne : x ≠ k := fun z => n1 (by rw [← z]; exact hx)
      exact (List.mem_erase_of_ne hne).mpr (h x (by simp [hx])))
    rw [List.length_erase_of_mem hk] at h1
    have := List.length_pos_of_mem hk
    rw [List.length_cons]; omega
theorem len_nodup : ∀ {ns ks : List Int}, ks.Nodup → (∀ k, k ∈ ks ↔ k ∈ ns) → (ks.length = ns.length ↔ ns.Nodup) := by
  intro ns ks nd hm
  constructor
  · intro hl
    induction ns generalizing ks with
    | nil => exact List.nodup_nil
    | cons n ns ih =>
      have hn : n ∈ ks := (hm n).mpr (by simp)
      have hnot : n ∉ ns := by
        intro hin
        have := len_sub nd (ns := ns) (fun k hk => by
          rcases List.mem_cons.mp ((hm k).mp hk) with rfl | h
          · exact hin
          · exact h)
        rw [List.length_cons] at hl; omega
      refine List.nodup_cons.mpr ⟨hnot, ih (ks := ks.erase n) (nd.erase n) (fun k => ?_) ?_⟩
      · rw [nd.mem_erase_iff, hm k, List.mem_cons]
        constructor
        · rintro ⟨h1, h2 | h2⟩
          · exact absurd h2 h1
          · exact h2
        · intro h
          exact ⟨fun z => hnot (z ▸ h), .inr h⟩
      · rw [List.length_erase_of_mem hn, hl, List.length_cons]; rfl
  · intro hn
    exact Nat.le_antisymm (len_sub nd fun k hk => (hm k).mp hk) (len_sub hn fun k hk => (hm k).mpr hk)
theorem lt_unique : ∀ {as bs : List Int}, as.Pairwise (· < ·) → bs.Pairwise (· < ·) → (∀ k, k ∈ as ↔ k ∈ bs) → as = bs
  | [], [], _, _, _ => rfl
  | [], b :: bs, _, _, h => by have := (h b).mpr (by simp); cases this
  | a :: as, [], _, _, h => by have := (h a).mp (by simp); cases this
  | a :: as, b :: bs, ha, hb, h => by
    obtain ⟨a1, a2⟩ := List.pairwise_cons.mp ha
    obtain ⟨b1, b2⟩ := List.pairwise_cons.mp hb
    have e : a = b := by
      rcases List.mem_cons.mp ((h a).mp (by simp)) with h1 | h1
      · exact h1
      · rcases List.mem_cons.mp ((h b).mpr (by simp)) with h2 | h2
        · exact h2.symm
        · have := b1 a h1; have := a1 b h2; omega
    subst e
    rw [lt_unique a2 b2 (fun k => ?_)]
    constructor
    · intro hk
      rcases List.mem_cons.mp ((h k).mp (List.mem_cons_of_mem _ hk)) with h1 | h1
      · have := a1 k hk; omega
      · exact h1
    · intro hk
      rcases List.mem_cons.mp ((h k).mpr (List.mem_cons_of_mem _ hk)) with h1 | h1
      · have := b1 k hk; omega
      · exact h1
theorem sort_nodup {ns ns' ms : List Int} (hp : ns'.Perm ns) (hs : ns'.Pairwise (· ≤ ·)) (hm : ms.Pairwise (· < ·)) (h : ∀ k, k ∈ ms ↔ k ∈ ns) : ns' = ms ↔ ns.Nodup := by
  constructor
  · intro e
    subst e
    exact hp.nodup_iff.mp (hm.imp fun {a b} h => by omega)
  · intro hn
    have hn' : ns'.Nodup := hp.nodup_iff.mpr hn
    refine lt_unique ?_ hm (fun k => by rw [hp.mem_iff, h k])
    exact (hs.and hn').imp fun {a b} h => by have := h.1; have := h.2; omega
end Pv
namespace Pv
open PySem PySem.Spec PyProof.Rows L2
abbrev sPList : Stmt := topS 30
theorem scPList : FnScope ["value", "post_count", "post"] ["value", "post_count"] (defScope sPList) := ⟨rfl, rfl, rfl, by decide +kernel, rfl, by decide +kernel, by decide +kernel⟩
/-! a tuple of different post numbers, by its data -/
def listD (n : Int) (d : PyData) : Bool := match intsOf d with
  | some row => row.all (fun x => decide (0 ≤ x ∧ x ≤ n - 1)) && decide row.Nodup
  | none => false
theorem listD_ints (n : Int) (row : List Int) : listD n (.tuple (row.map .int)) = (row.all (fun x => decide (0 ≤ x ∧ x ≤ n - 1)) && decide row.Nodup) := by
  simp [listD, intsOf, intsAll_ints]
theorem listD_out {n : Int} {ds : List PyData} (h : ds.all (withinD 0 (n - 1)) = false) : listD n (.tuple ds) = false := by
  cases e : intsAll ds with
  | none => simp [listD, intsOf, e]
  | some row =>
    have e' := intsAll_eq e
    rw [e', List.all_map] at h
    have : row.all (fun x => decide (0 ≤ x ∧ x ≤ n - 1)) = false := h
    simp only [listD, intsOf, e, this, Bool.false_and]
theorem listD_long {n : Int} {d : PyData} (hn : 0 ≤ n) (h : tupOfD 0 n d = false) : listD n d = false := by
  cases d with
  | tuple ds =>
    cases e : listD n (.tuple ds) with
    | false => rfl
    | true =>
      cases e1 : intsAll ds with
      | none => simp [listD, intsOf, e1] at e
      | some row =>
        have e2 := intsAll_eq e1
        subst e2
        rw [listD_ints, Bool.and_eq_true, List.all_eq_true] at e
        have hl := len_sub (ks := row) (ns := upTo n.toNat) (of_decide_eq_true e.2) (fun k hk => by
          have := of_decide_eq_true (e.1 k hk)
          exact List.mem_map.mpr ⟨k.toNat, by rw [List.mem_range]; omega, by omega⟩)
        rw [upTo_len] at hl
        have h1 := of_decide_eq_false h
        rw [List.length_map] at h1
        omega
  | _ => rfl
section
variable {P : Program} {w : World} {K : PySem.W.Frag} {mg : Str → Option Value} {base : Heap}
def rNeNil (K : PySem.W.Frag) : R2 := fun x y H Q => ∃ (a b : Addr) (xs : List V), x = .ref a ∧ y = .ref b ∧ SqL K H a xs ∧ SqL K H b [] ∧ Q (.bl (!xs.isEmpty)) H
theorem op_neNil {X : Cx} (hu : X.A.units < cLine) : OpR X (compareOp .NotEq) (rNeNil X.K) := by
  intro pins s σ H x y v u Q I rx ry h
  obtain ⟨a, b, xs, rfl, rfl, ha, hb, q⟩ := h
  cases rx
  cases ry
  obtain ⟨its, r1, p1, z1⟩ := I.list ha
  obtain ⟨its2, r2, p2, z2⟩ := I.list hb
  cases r2
  cases xs with
  | nil =>
    cases r1
    exact SeqAt.RcNeAt.lists (e := fun _ => true) p1.isList p2.isList rfl hu (fun j h1 _ => absurd h1 (Nat.not_lt_zero _)) X.prog X.w _ _ ⟨.bl false, H, I, rfl, q⟩
  | cons x xs =>
    have hl := r1.length
    exact SeqAt.RcNeAt.lists_lengths p1.isList p2.isList (by rw [List.size_toArray, ← hl]; rfl) hu X.prog X.w _ _ ⟨.bl true, H, I, rfl, q⟩
def spInteg (K : PySem.W.Frag) : Sp := fun vs H Q _ => ∃ (st r : Addr) (v : V) (d : PyData) (a b : Int), vs = [v, .int a, .int b] ∧ Dq K st r H v d ∧ Q (.bl (withinD a b d)) H
def spPList (K : PySem.W.Frag) : Sp := fun vs H Q _ => ∃ (st r : Addr) (v : V) (d : PyData) (n : Int), vs = [v, .int n] ∧ Dq K st r H v d ∧ 0 ≤ n ∧ n ≤ 50 ∧ ∀ H', Same H H' → Q (.bl (listD n d)) H'
set_option maxHeartbeats 1000000 in
theorem ok_plist {f fT fW : Addr} {fd fdT fdW : FuncData} {k : Nat} (F : Fun K "is_post_list" "is_post_list" sPList f fd)
    (FT : Fun K "is_tuple_of" "is_tuple_of" sTupOf fT fdT) (bT : Binds K fdT ["value", "least", "most"] []) (gT : mg "is_tuple_of" = some (.ref fT)) (GT : FnOk P w K mg base CX0 1 fT fdT ["value", "least", "most"] (spTupOf K))
    (FW : Fun K "is_within" "is_within" sWithin fW fdW) (bW : Binds K fdW ["value", "least", "most"] []) (gW : mg "is_within" = some (.ref fW)) (GW : FnOk P w K mg base CX0 2 fW fdW ["value", "least", "most"] (spWithin K))
    (ml : mg "len" = none) (ma : mg "all" = none) (mse : mg "set" = none) : FnOk P w K mg base CX0 (2 + k + 1) f fd ["value", "post_count"] (spPList K) := by
  refine F.ok scPList (fun vs H Q E h => ?_) (fun cdv A outer s H vs Q E hr h => ?_)
  · obtain ⟨st, r, v, d, n, rfl, _⟩ := h; rfl
  · obtain ⟨st, r, v, d, n, rfl, hd, hn0, hn, q⟩ := h
    refine ⟨_, pss_cons (ps_if (pt_not (pt_val (pe_call GT (hr.mono (by omega)) (by rfl) gT FT.kp bT .nil pass0 (pa_cons (pv 0) (pa_cons pe_int (pa_cons (pv 1) pa_nil)))))) (pss_one (ps_ret pe_bl)) pss_nil)
      (pss_cons (ps_if (pt_not (pt_val (pe_callB (cr_all rfl) (by rfl) ma (by decide +kernel) (pa_cons
          (pe_lc (own := [("post", 2)]) (g := gName 2) (tt := tYes) (te := tCall (spWithin K) [] E0 (tCons (tVar 2) (tCons (tC (.int 0)) (tCons (tOp (rI0 fun i j => .int (i - j)) (tVar 1) (tC (.int 1))) tNil)))) rfl scPList.nd (pi_tup (pv 0)) (blkOk_by (N := ["value", "post_count", "post"]) (sc := defScope sPList) (by decide +kernel))
            (fun _ _ _ _ _ => pg_name (i := 2) scPList.nd rfl (.inl rfl)) (fun _ _ _ _ _ => pts_nil)
            (fun _ _ _ _ _ => pe_call GW (hr.mono (by omega)) (by rfl) gW FW.kp bW .nil pass0 (pa_cons (pv 2) (pa_cons pe_int (pa_cons (pe_op op_sub (pv 1) pe_int) pa_nil)))))
          pa_nil)))) (pss_one (ps_ret pe_bl)) pss_nil)
      (pss_one (ps_ret (pe_cmpR op_eq (pe_callB cr_lenSet (by rfl) ml PySem.boot_len (pa_cons (pe_callTy (cr_setT rfl) (by rfl) mse (by decide +kernel) (pa_cons (pv 0) pa_nil)) pa_nil)) (pe_callB call_len_seq (by rfl) ml PySem.boot_len (pa_cons (pv 0) pa_nil)) (nomark _))))), ?_⟩
    refine ⟨v, rfl, .int n, rfl, st, r, v, d, _, _, rfl, hd, ?_⟩
    cases hb : tupOfD 0 n d with
    | false =>
      refine ⟨_, rfl, iteT ?_⟩
      have := q H (Same.refl H)
      rw [listD_long hn0 hb] at this
      exact this
    | true =>
    refine ⟨_, rfl, iteF ?_⟩
    cases d with
    | none | bool _ | int _ | str _ | list _ | dict _ => simp [tupOfD] at hb
    | tuple ds =>
    cases hd with
    | @tup va xs _ hV ha =>
    have hl := DqAll.len ha
    have hdl : (ds.length : Int) ≤ n := (of_decide_eq_true hb).2
    refine ⟨.ref va, rfl, va, rfl, ⟨_, hV⟩, fun D nD => lc_tup (xs := xs)
      (fun i H2 => Same H H2 ∧ H2 D = some (.lst (((ds.take i).map (withinD 0 (n - 1))).map V.bl))) ⟨sameNew nD, upd_same⟩ (fun i H2 _ h2 => (TupK.of h2.1).sq hV) ?_ ?_⟩
    · rintro i x H2 hx ⟨s2, e2⟩
      obtain ⟨dx, hdx, hxd⟩ := DqAll.at ha hx
      have hil : i < ds.length := (List.getElem?_eq_some_iff.mp hdx).1
      refine ⟨rfl, x, rfl, .int n, rfl, _, _, rfl, rfl, st, r, x, dx, 0, n - 1, rfl, hxd.lasts (.of s2), _, e2, ?_, samePut s2 nD, ?_⟩
      · rw [List.length_map, List.length_map, List.length_take]; exact small (by omega)
      · rw [upd_same, List.take_add_one, hdx]; simp
    · rintro H2 ⟨s2, e2⟩
      rw [hl, List.take_length] at e2
      refine ⟨D, _, rfl, SqL.of e2, _, rfl, ?_⟩
      cases hall : ((ds.map (withinD 0 (n - 1))).all id) with
      | false =>
        rw [List.all_map] at hall
        have := q H2 s2
        rw [listD_out (show ds.all (withinD 0 (n - 1)) = false from hall)] at this
        exact this
      | true =>
        rw [List.all_map] at hall
        obtain ⟨row, er, hrow⟩ := within_ints (show ds.all (withinD 0 (n - 1)) = true from hall)
        subst er
        have hxs := DpAll.ints (DqAll.to_dp (to_ints row) ha)
        subst hxs
        rw [List.length_map] at hdl
        refine ⟨.ref va, rfl, va, row, rfl, (TupK.of s2).sq hV, by omega, fun p c np hks hcn => ⟨p, _, c, rfl, upd_same, .ref va, rfl, va, _, rfl, .inr ((TupK.new np).sq ((TupK.of s2).sq hV)), rfl, ?_⟩⟩
        obtain ⟨ks, nd, hm, hlk⟩ := hks
        have e : listD n (.tuple (row.map PyData.int)) = decide (V.int (c : Int) = V.int (((row.map V.int).length : Nat) : Int)) := by
          rw [listD_ints, hrow, Bool.true_and, List.length_map]
          have := len_nodup nd hm
          rw [hlk] at this
          by_cases hnd : row.Nodup
          · rw [decide_eq_true hnd, this.mpr hnd]; simp
          · have h3 : ¬ c = row.length := fun z => hnd (this.mp z)
            rw [decide_eq_false hnd]
            symm
            apply decide_eq_false
            intro z
            injection z with z
            omega
        have := q _ (s2.trans (sameNew (o := SetO w p (fun j => decide (j ∈ row)) c) np))
        rw [e] at this
        exact this
end
end Pv
namespace Pv
open PySem PySem.Spec PyProof.Rows L2
abbrev sIErr : Stmt := topS 27
abbrev sPErr : Stmt := topS 28
abbrev sGErr : Stmt := topS 29
theorem scIErr : FnScope ["value", "posts", "groups", "error"] ["value"] (defScope sIErr) := ⟨rfl, rfl, rfl, by decide +kernel, rfl, by decide +kernel, by decide +kernel⟩
theorem scPErr : FnScope ["posts", "post", "capacity"] ["posts"] (defScope sPErr) := ⟨rfl, rfl, rfl, by decide +kernel, rfl, by decide +kernel, by decide +kernel⟩
theorem scGErr : FnScope ["groups", "post_count", "number", "group"] ["groups", "post_count"] (defScope sGErr) := ⟨rfl, rfl, rfl, by decide +kernel, rfl, by decide +kernel, by decide +kernel⟩
/-! the first error, by the data -/
abbrev bigI : Int := 1000000000000
def err (path : List Int) (s : Str) : PyData := .tuple [dI path, .str s]
def firstErr (ge : Nat → PyData → Option PyData) : Nat → List PyData → Option PyData
  | _, [] => none
  | i, d :: ds => match ge i d with
    | some e => some e
    | none => firstErr ge (i + 1) ds
theorem firstErr_none {ge : Nat → PyData → Option PyData} : ∀ {ds : List PyData} {i : Nat}, (∀ j d, ds[j]? = some d → ge (i + j) d = none) → firstErr ge i ds = none
  | [], _, _ => rfl
  | d :: ds, i, h => by
    have h0 := h 0 d rfl
    unfold firstErr
    rw [show i + 0 = i from rfl] at h0
    rw [h0]
    exact firstErr_none (ds := ds) (i := i + 1) (fun j d' hj => by have := h (j + 1) d' (by simpa using hj); rw [show i + 1 + j = i + (j + 1) by omega]; exact this)
theorem firstErr_at {ge : Nat → PyData → Option PyData} : ∀ {ds : List PyData} {i j : Nat} {d e : PyData}, (∀ m, m < j → ∀ d', ds[m]? = some d' → ge (i + m) d' = none) → ds[j]? = some d → ge (i + j) d = some e → firstErr ge i ds = some e
  | [], _, _, _, _, _, h, _ => by simp at h
  | x :: ds, i, 0, d, e, _, h, he => by
    simp at h
    subst h
    unfold firstErr
    rw [show i + 0 = i from rfl] at he
    rw [he]
  | x :: ds, i, j + 1, d, e, hp, h, he => by
    have h0 := hp 0 (by omega) x rfl
    rw [show i + 0 = i from rfl] at h0
    unfold firstErr
    rw [h0]
    exact firstErr_at (ds := ds) (i := i + 1) (j := j) (d := d) (fun m hm d' hd' => by have := hp (m + 1) (by omega) d' (by simpa using hd'); rw [show i + 1 + m = i + (m + 1) by omega]; exact this) (by simpa using h) (by rw [show i + 1 + j = i + (j + 1) by omega]; exact he)
def capE (i : Nat) (d : PyData) : Option PyData := if withinD 1 bigI d = true then none else some (err [0, (i : Int)] "capacity")
def grpE (n : Int) (i : Nat) (d : PyData) : Option PyData := match d with
  | .tuple [a, b] => if listD n a = true then (if withinD 1 bigI b = true then none else some (err [1, (i : Int), 1] "count")) else some (err [1, (i : Int), 0] "list")
  | _ => some (err [1, (i : Int)] "group")
def tupItems : PyData → List PyData
  | .tuple ds => ds
  | _ => []
def postsE (d : PyData) : Option PyData := if tupOfD 1 6 d = true then firstErr capE 0 (tupItems d) else some (err [0] "posts")
def groupsE (n : Int) (d : PyData) : Option PyData := if tupOfD 1 10 d = true then firstErr (grpE n) 0 (tupItems d) else some (err [1] "groups")
def instE (d : PyData) : Option PyData := match d with
  | .tuple [a, b] => match postsE a with
    | some e => some e
    | none => groupsE ((tupItems a).length : Nat) b
  | _ => some (err [] "instance")
def optD (o : Option PyData) : PyData := o.getD .none
theorem grpE_not {n : Int} {i : Nat} {d : PyData} (h : tupOfD 2 2 d = false) : grpE n i d = some (err [1, (i : Int)] "group") := by
  unfold grpE
  split
  · simp [tupOfD] at h
  · rfl
theorem two_of {ds : List PyData} (h : tupOfD 2 2 (.tuple ds) = true) : ∃ a b, ds = [a, b] := by
  have h1 := of_decide_eq_true h
  match ds, h1 with
  | [a, b], _ => exact ⟨a, b, rfl⟩
  | [], h => simp at h
  | [_], h => simp at h
  | _ :: _ :: _ :: _, h => simp at h; omega
section
variable {P : Program} {w : World} {K : PySem.W.Frag} {mg : Str → Option Value} {base : Heap}
theorem err_fin {H : Hp} {p1 p2 : Addr} (path : List Int) (s : Str) (n1 : H p1 = none) (n2 : upd H p1 (.tup (path.map V.int)) p2 = none) :
    Same H (upd (upd H p1 (.tup (path.map V.int))) p2 (.tup [.ref p1, .str s])) ∧ Dp K (upd (upd H p1 (.tup (path.map V.int))) p2 (.tup [.ref p1, .str s])) (.ref p2) (err path s) :=
  ⟨(sameNew n1).trans (sameNew n2), .tup (SqT.of upd_same) (.cons (dI_sq (SqT.of (upNew n2 upd_same))) (.cons (.str s) .nil))⟩
def spErr (K : PySem.W.Frag) (D : PyData → Option PyData) : Sp := fun vs H Q _ => ∃ (st r : Addr) (v : V) (d : PyData), vs = [v] ∧ Dq K st r H v d ∧ ∀ (H' : Hp) (x : V), Same H H' → Dp K H' x (optD (D d)) → Q x H'
set_option maxHeartbeats 1000000 in
theorem ok_perr {f fT fW : Addr} {fd fdT fdW : FuncData} {k : Nat} {uP uB : Value} (F : Fun K "posts_error" "posts_error" sPErr f fd)
    (FT : Fun K "is_tuple_of" "is_tuple_of" sTupOf fT fdT) (bT : Binds K fdT ["value", "least", "most"] []) (gT : mg "is_tuple_of" = some (.ref fT)) (GT : FnOk P w K mg base CX0 1 fT fdT ["value", "least", "most"] (spTupOf K))
    (FW : Fun K "is_within" "is_within" sWithin fW fdW) (bW : Binds K fdW ["value", "least", "most"] []) (gW : mg "is_within" = some (.ref fW)) (GW : FnOk P w K mg base CX0 2 fW fdW ["value", "least", "most"] (spWithin K))
    (me : mg "enumerate" = none) (mP : mg "POSTS" = some uP) (rP : RelV (.int 6) uP) (mB : mg "BIG" = some uB) (rB : RelV (.int bigI) uB) : FnOk P w K mg base CX0 (2 + k + 1) f fd ["posts"] (spErr K postsE) := by
  refine F.ok scPErr (fun vs H Q E h => ?_) (fun cdv A outer s H vs Q E hr h => ?_)
  · obtain ⟨st, r, v, d, rfl, _⟩ := h; rfl
  · obtain ⟨st, r, v, d, rfl, hd, q⟩ := h
    refine ⟨_, pss_cons (ps_if (pt_not (pt_val (pe_call GT (hr.mono (by omega)) (by rfl) gT FT.kp bT .nil pass0 (pa_cons (pv 0) (pa_cons pe_int (pa_cons (pe_glob (by rfl) mP rP) pa_nil))))))
        (pss_one (ps_ret (pe_tup (pa_cons (pe_tup (pa_cons pe_int pa_nil)) (pa_cons pe_str pa_nil))))) pss_nil)
      (pss_cons (ps_for PassesOwn.never rfl (pi_enumT (by rfl) me (pa_cons (pv 0) pa_nil)) (pg_tup rfl (pgs_cons (pg_name (i := 1) scPErr.nd rfl (.inl rfl)) (pgs_cons (pg_name (i := 2) scPErr.nd rfl (.inl rfl)) pgs_nil)))
        (pss_one (ps_if (pt_not (pt_val (pe_call GW (hr.mono (by omega)) (by rfl) gW FW.kp bW .nil pass0 (pa_cons (pv 2) (pa_cons pe_int (pa_cons (pe_glob (by rfl) mB rB) pa_nil))))))
          (pss_one (ps_ret (pe_tup (pa_cons (pe_tup (pa_cons pe_int (pa_cons (pv 1) pa_nil))) (pa_cons pe_str pa_nil))))) pss_nil)))
      (pss_one (ps_ret pe_non))), ?_⟩
    refine ⟨v, rfl, st, r, v, d, _, _, rfl, hd, ?_⟩
    cases hb : tupOfD 1 6 d with
    | false =>
      refine ⟨_, rfl, iteT ⟨by decide, fun p1 n1 => ⟨(show (2 : Nat) ≤ sizeLine by decide), fun p2 n2 => ?_⟩⟩⟩
      obtain ⟨s1, h1⟩ := err_fin (K := K) [0] "posts" n1 n2
      refine q _ _ s1 ?_
      rw [show postsE d = some (err [0] "posts") by unfold postsE; rw [hb]; rfl]
      exact h1
    | true =>
    refine ⟨_, rfl, iteF ?_⟩
    cases d with
    | none | bool _ | int _ | str _ | list _ | dict _ => simp [tupOfD] at hb
    | tuple ds =>
    cases hd with
    | @tup a xs _ hV ha =>
    have hl := DqAll.len ha
    have hE : postsE (.tuple ds) = firstErr capE 0 ds := by unfold postsE; rw [hb]; rfl
    refine ⟨.ref a, rfl, a, xs, rfl, hV, for_it (walk_enumT (K := K) (a := a) (xs := xs))
      (fun j σ H2 => ∃ y1 y2, σ = [some (.ref a), y1, y2] ∧ Same H H2 ∧ ∀ m, m < j → ∀ d', ds[m]? = some d' → capE (0 + m) d' = none)
      ⟨none, none, rfl, Same.refl _, fun m hm => absurd hm (Nat.not_lt_zero _)⟩ ?_ ?_ ?_⟩
    · rintro j σ H2 _ ⟨y1, y2, rfl, s2, _⟩
      exact (TupK.of s2).sq hV
    · rintro j v σ H2 H3 hlt ⟨y1, y2, rfl, s2, hpre⟩ ⟨T, x, y, rfl, nT, rfl, hx, hy⟩
      have hx' : some (V.int (j : Nat)) = some x := hx
      cases hx'
      have hy' : xs[j]? = some y := hy
      obtain ⟨dy, hdy, hyd⟩ := DqAll.at ha hy'
      have s3 : Same H (upd H2 T (.tup [.int (j : Nat), y])) := s2.trans (sameNew nT)
      refine ⟨T, _, rfl, SqT.of upd_same, rfl, _, _, rfl, _, _, rfl, rfl, y, rfl, st, r, y, dy, _, _, rfl, hyd.lasts (.of s3), ?_⟩
      cases hw : withinD 1 bigI dy with
      | false =>
        refine ⟨_, rfl, iteT ⟨.int (j : Nat), rfl, (show (2 : Nat) ≤ sizeLine by decide), fun p1 n1 => ⟨(show (2 : Nat) ≤ sizeLine by decide), fun p2 n2 => ?_⟩⟩⟩
        obtain ⟨s1, h1⟩ := err_fin (K := K) [0, (j : Int)] "capacity" n1 n2
        refine q _ _ (s3.trans s1) ?_
        rw [hE, firstErr_at hpre hdy (show capE (0 + j) dy = some (err [0, (j : Int)] "capacity") by unfold capE; rw [hw, Nat.zero_add]; rfl)]
        exact h1
      | true =>
        refine ⟨_, rfl, iteF ⟨_, _, rfl, s3, fun m hm d' hd' => ?_⟩⟩
        by_cases hmj : m < j
        · exact hpre m hmj d' hd'
        · obtain rfl : m = j := by omega
          rw [hdy] at hd'
          cases hd'
          unfold capE
          rw [hw]; rfl
    · rintro σ H2 ⟨y1, y2, rfl, s2, hpre⟩
      refine q _ _ s2 ?_
      rw [hE, firstErr_none (fun j d hj => hpre j (by have := (List.getElem?_eq_some_iff.mp hj).1; omega) d hj)]
      exact .non
end
end Pv
namespace Pv
open PySem PySem.Spec PyProof.Rows L2
section
variable {P : Program} {w : World} {K : PySem.W.Frag} {mg : Str → Option Value} {base : Heap}
def spGErr (K : PySem.W.Frag) : Sp := fun vs H Q _ => ∃ (st r : Addr) (v : V) (d : PyData) (n : Nat), vs = [v, .int n] ∧ Dq K st r H v d ∧ n ≤ 50 ∧ ∀ (H' : Hp) (x : V), Same H H' → Dp K H' x (optD (groupsE n d)) → Q x H'
set_option maxHeartbeats 2000000 in
theorem ok_gerr {f fT fW fL : Addr} {fd fdT fdW fdL : FuncData} {k : Nat} {uG uB : Value} (F : Fun K "groups_error" "groups_error" sGErr f fd)
    (FT : Fun K "is_tuple_of" "is_tuple_of" sTupOf fT fdT) (bT : Binds K fdT ["value", "least", "most"] []) (gT : mg "is_tuple_of" = some (.ref fT)) (GT : FnOk P w K mg base CX0 1 fT fdT ["value", "least", "most"] (spTupOf K))
    (FW : Fun K "is_within" "is_within" sWithin fW fdW) (bW : Binds K fdW ["value", "least", "most"] []) (gW : mg "is_within" = some (.ref fW)) (GW : FnOk P w K mg base CX0 2 fW fdW ["value", "least", "most"] (spWithin K))
    (FL : Fun K "is_post_list" "is_post_list" sPList fL fdL) (bL : Binds K fdL ["value", "post_count"] []) (gL : mg "is_post_list" = some (.ref fL)) (GL : FnOk P w K mg base CX0 3 fL fdL ["value", "post_count"] (spPList K))
    (me : mg "enumerate" = none) (mG : mg "GROUPS" = some uG) (rG : RelV (.int 10) uG) (mB : mg "BIG" = some uB) (rB : RelV (.int bigI) uB) : FnOk P w K mg base CX0 (3 + k + 1) f fd ["groups", "post_count"] (spGErr K) := by
  refine F.ok scGErr (fun vs H Q E h => ?_) (fun cdv A outer s H vs Q E hr h => ?_)
  · obtain ⟨st, r, v, d, n, rfl, _⟩ := h; rfl
  · obtain ⟨st, r, v, d, n, rfl, hd, hn, q⟩ := h
    refine ⟨_, pss_cons (ps_if (pt_not (pt_val (pe_call GT (hr.mono (by omega)) (by rfl) gT FT.kp bT .nil pass0 (pa_cons (pv 0) (pa_cons pe_int (pa_cons (pe_glob (by rfl) mG rG) pa_nil))))))
        (pss_one (ps_ret (pe_tup (pa_cons (pe_tup (pa_cons pe_int pa_nil)) (pa_cons pe_str pa_nil))))) pss_nil)
      (pss_cons (ps_for PassesOwn.never rfl (pi_enumT (by rfl) me (pa_cons (pv 0) pa_nil)) (pg_tup rfl (pgs_cons (pg_name (i := 2) scGErr.nd rfl (.inl rfl)) (pgs_cons (pg_name (i := 3) scGErr.nd rfl (.inl rfl)) pgs_nil)))
        (pss_cons (ps_if (pt_not (pt_val (pe_call GT (hr.mono (by omega)) (by rfl) gT FT.kp bT .nil pass0 (pa_cons (pv 3) (pa_cons pe_int (pa_cons pe_int pa_nil))))))
          (pss_one (ps_ret (pe_tup (pa_cons (pe_tup (pa_cons pe_int (pa_cons (pv 2) pa_nil))) (pa_cons pe_str pa_nil))))) pss_nil)
        (pss_cons (ps_if (pt_not (pt_val (pe_call GL (hr.mono (by omega)) (by rfl) gL FL.kp bL .nil pass0 (pa_cons (pe_ix ix_tup (pv 3) pe_int (fun _ _ => rfl)) (pa_cons (pv 1) pa_nil)))))
          (pss_one (ps_ret (pe_tup (pa_cons (pe_tup (pa_cons pe_int (pa_cons (pv 2) (pa_cons pe_int pa_nil)))) (pa_cons pe_str pa_nil))))) pss_nil)
        (pss_one (ps_if (pt_not (pt_val (pe_call GW (hr.mono (by omega)) (by rfl) gW FW.kp bW .nil pass0 (pa_cons (pe_ix ix_tup (pv 3) pe_int (fun _ _ => rfl)) (pa_cons pe_int (pa_cons (pe_glob (by rfl) mB rB) pa_nil))))))
          (pss_one (ps_ret (pe_tup (pa_cons (pe_tup (pa_cons pe_int (pa_cons (pv 2) (pa_cons pe_int pa_nil)))) (pa_cons pe_str pa_nil))))) pss_nil)))))
      (pss_one (ps_ret pe_non))), ?_⟩
    refine ⟨v, rfl, st, r, v, d, _, _, rfl, hd, ?_⟩
    cases hb : tupOfD 1 10 d with
    | false =>
      refine ⟨_, rfl, iteT ⟨by decide, fun p1 n1 => ⟨(show (2 : Nat) ≤ sizeLine by decide), fun p2 n2 => ?_⟩⟩⟩
      obtain ⟨s1, h1⟩ := err_fin (K := K) [1] "groups" n1 n2
      refine q _ _ s1 ?_
      rw [show groupsE n d = some (err [1] "groups") by unfold groupsE; rw [hb]; rfl]
      exact h1
    | true =>
    refine ⟨_, rfl, iteF ?_⟩
    cases d with
    | none | bool _ | int _ | str _ | list _ | dict _ => simp [tupOfD] at hb
    | tuple ds =>
    cases hd with
    | @tup a xs _ hV ha =>
    have hl := DqAll.len ha
    have hE : groupsE n (.tuple ds) = firstErr (grpE n) 0 ds := by unfold groupsE; rw [hb]; rfl
    refine ⟨.ref a, rfl, a, xs, rfl, hV, for_it (walk_enumT (K := K) (a := a) (xs := xs))
      (fun j σ H2 => ∃ y1 y2, σ = [some (.ref a), some (.int n), y1, y2] ∧ Same H H2 ∧ ∀ m, m < j → ∀ d', ds[m]? = some d' → grpE n (0 + m) d' = none)
      ⟨none, none, rfl, Same.refl _, fun m hm => absurd hm (Nat.not_lt_zero _)⟩ ?_ ?_ ?_⟩
    · rintro j σ H2 _ ⟨y1, y2, rfl, s2, _⟩
      exact (TupK.of s2).sq hV
    · rintro j v σ H2 H3 hlt ⟨y1, y2, rfl, s2, hpre⟩ ⟨T, x, y, rfl, nT, rfl, hx, hy⟩
      have hx' : some (V.int (j : Nat)) = some x := hx
      cases hx'
      have hy' : xs[j]? = some y := hy
      obtain ⟨dy, hdy, hyd⟩ := DqAll.at ha hy'
      have s3 : Same H (upd H2 T (.tup [.int (j : Nat), y])) := s2.trans (sameNew nT)
      have hy3 := hyd.lasts (Lasts.of (st := st) (r := r) s3)
      have fin : ∀ {e : PyData}, grpE n j dy = some e → groupsE n (.tuple ds) = some e := fun {e} he => by
        rw [hE]; exact firstErr_at hpre hdy (by rw [Nat.zero_add]; exact he)
      refine ⟨T, _, rfl, SqT.of upd_same, rfl, _, _, rfl, _, _, rfl, rfl, y, rfl, st, r, y, dy, _, _, rfl, hy3, ?_⟩
      cases hw : tupOfD 2 2 dy with
      | false =>
        refine ⟨_, rfl, iteT ⟨.int (j : Nat), rfl, (show (2 : Nat) ≤ sizeLine by decide), fun p1 n1 => ⟨(show (2 : Nat) ≤ sizeLine by decide), fun p2 n2 => ?_⟩⟩⟩
        obtain ⟨s1, h1⟩ := err_fin (K := K) [1, (j : Int)] "group" n1 n2
        refine q _ _ (s3.trans s1) ?_
        rw [fin (grpE_not hw)]
        exact h1
      | true =>
      refine ⟨_, rfl, iteF ?_⟩
      cases dy with
      | none | bool _ | int _ | str _ | list _ | dict _ => simp [tupOfD] at hw
      | tuple es =>
      obtain ⟨da, db, rfl⟩ := two_of hw
      cases hy3 with
      | @tup ga zs _ hg hz =>
      cases hz with
      | @cons va _ _ _ hva hz =>
      cases hz with
      | @cons vb _ _ _ hvb hz =>
      cases hz
      have hge : grpE n j (.tuple [da, db]) = if listD n da = true then (if withinD 1 bigI db = true then none else some (err [1, (j : Int), 1] "count")) else some (err [1, (j : Int), 0] "list") := rfl
      refine ⟨.ref ga, rfl, ga, _, 0, va, rfl, rfl, hg, atI_nat (j := 0) rfl, .int n, rfl, st, r, va, da, _, rfl, hva, by omega, by omega, fun H4 s4 => ?_⟩
      have s34 := s3.trans s4
      cases hL : listD n da with
      | false =>
        refine ⟨_, rfl, iteT ⟨.int (j : Nat), rfl, (show (3 : Nat) ≤ sizeLine by decide), fun p1 n1 => ⟨(show (2 : Nat) ≤ sizeLine by decide), fun p2 n2 => ?_⟩⟩⟩
        obtain ⟨s1, h1⟩ := err_fin (K := K) [1, (j : Int), 0] "list" n1 n2
        refine q _ _ (s34.trans s1) ?_
        rw [fin (by rw [hge, hL]; rfl)]
        exact h1
      | true =>
      refine ⟨_, rfl, iteF ⟨.ref ga, rfl, ga, _, 1, vb, rfl, rfl, (TupK.of s4).sq hg, atI_nat (j := 1) rfl, st, r, vb, db, _, _, rfl, hvb.lasts (.of s4), ?_⟩⟩
      cases hw2 : withinD 1 bigI db with
      | false =>
        refine ⟨_, rfl, iteT ⟨.int (j : Nat), rfl, (show (3 : Nat) ≤ sizeLine by decide), fun p1 n1 => ⟨(show (2 : Nat) ≤ sizeLine by decide), fun p2 n2 => ?_⟩⟩⟩
        obtain ⟨s1, h1⟩ := err_fin (K := K) [1, (j : Int), 1] "count" n1 n2
        refine q _ _ (s34.trans s1) ?_
        rw [fin (by rw [hge, hL, hw2]; rfl)]
        exact h1
      | true =>
        refine ⟨_, rfl, iteF ⟨_, _, rfl, s34, fun m hm d' hd' => ?_⟩⟩
        by_cases hmj : m < j
        · exact hpre m hmj d' hd'
        · obtain rfl : m = j := by omega
          rw [hdy] at hd'
          cases hd'
          rw [Nat.zero_add, hge, hL, hw2]; rfl
    · rintro σ H2 ⟨y1, y2, rfl, s2, hpre⟩
      refine q _ _ s2 ?_
      rw [hE, firstErr_none (fun j d hj => hpre j (by have := (List.getElem?_eq_some_iff.mp hj).1; omega) d hj)]
      exact .non
theorem firstErr_err {ge : Nat → PyData → Option PyData} (h : ∀ i d e, ge i d = some e → ∃ p s, e = err p s) : ∀ (ds : List PyData) (i : Nat) (e : PyData), firstErr ge i ds = some e → ∃ p s, e = err p s
  | [], _, _, he => by cases he
  | d :: ds, i, e, he => by
    unfold firstErr at he
    cases h1 : ge i d with
    | some e' => rw [h1] at he; cases he; exact h i d _ h1
    | none => rw [h1] at he; exact firstErr_err h ds (i + 1) e he
theorem capE_err : ∀ (i : Nat) (d e : PyData), capE i d = some e → ∃ p s, e = err p s := by
  intro i d e h
  unfold capE at h
  split at h
  · cases h
  · cases h; exact ⟨_, _, rfl⟩
theorem grpE_err (n : Int) : ∀ (i : Nat) (d e : PyData), grpE n i d = some e → ∃ p s, e = err p s := by
  intro i d e h
  unfold grpE at h
  split at h
  · split at h
    · split at h
      · cases h
      · cases h; exact ⟨_, _, rfl⟩
    · cases h; exact ⟨_, _, rfl⟩
  · cases h; exact ⟨_, _, rfl⟩
theorem postsE_err {a e : PyData} (h : postsE a = some e) : ∃ p s, e = err p s := by
  unfold postsE at h
  split at h
  · exact firstErr_err capE_err _ _ _ h
  · cases h; exact ⟨_, _, rfl⟩
theorem groupsE_err {n : Int} {a e : PyData} (h : groupsE n a = some e) : ∃ p s, e = err p s := by
  unfold groupsE at h
  split at h
  · exact firstErr_err (grpE_err n) _ _ _ h
  · cases h; exact ⟨_, _, rfl⟩
theorem instE_pair (a b : PyData) : instE (.tuple [a, b]) = match postsE a with
    | some e => some e
    | none => groupsE ((tupItems a).length : Nat) b := rfl
theorem instE_err {a e : PyData} (h : instE a = some e) : ∃ p s, e = err p s := by
  unfold instE at h
  split at h
  · split at h
    · rename_i hp; cases h; exact postsE_err hp
    · exact groupsE_err h
  · cases h; exact ⟨_, _, rfl⟩
theorem err_ref {H : Hp} {x : V} {p : List Int} {sx : Str} (h : Dp K H x (err p sx)) : ∃ a, x = .ref a := by
  unfold err at h
  cases h
  exact ⟨_, rfl⟩
theorem postsE_ok {a : PyData} (h : postsE a = none) : ∃ ds, a = .tuple ds ∧ 1 ≤ ds.length ∧ ds.length ≤ 6 := by
  unfold postsE at h
  cases hb : tupOfD 1 6 a with
  | false => rw [hb] at h; cases h
  | true =>
    cases a with
    | tuple ds => exact ⟨ds, rfl, by have := of_decide_eq_true hb; omega, by have := of_decide_eq_true hb; omega⟩
    | _ => simp [tupOfD] at hb
set_option maxHeartbeats 1000000 in
theorem ok_ierr {f fT fP fG : Addr} {fd fdT fdP fdG : FuncData} {k : Nat} (F : Fun K "instance_error" "instance_error" sIErr f fd)
    (FT : Fun K "is_tuple_of" "is_tuple_of" sTupOf fT fdT) (bT : Binds K fdT ["value", "least", "most"] []) (gT : mg "is_tuple_of" = some (.ref fT)) (GT : FnOk P w K mg base CX0 1 fT fdT ["value", "least", "most"] (spTupOf K))
    (FP : Fun K "posts_error" "posts_error" sPErr fP fdP) (bP : Binds K fdP ["posts"] []) (gP : mg "posts_error" = some (.ref fP)) (GP : FnOk P w K mg base CX0 3 fP fdP ["posts"] (spErr K postsE))
    (FG : Fun K "groups_error" "groups_error" sGErr fG fdG) (bG : Binds K fdG ["groups", "post_count"] []) (gG : mg "groups_error" = some (.ref fG)) (GG : FnOk P w K mg base CX0 4 fG fdG ["groups", "post_count"] (spGErr K))
    (ml : mg "len" = none) : FnOk P w K mg base CX0 (4 + k + 1) f fd ["value"] (spErr K instE) := by
  refine F.ok scIErr (fun vs H Q E h => ?_) (fun cdv A outer s H vs Q E hr h => ?_)
  · obtain ⟨st, r, v, d, rfl, _⟩ := h; rfl
  · obtain ⟨st, r, v, d, rfl, hd, q⟩ := h
    refine ⟨_, pss_cons (ps_if (pt_not (pt_val (pe_call GT (hr.mono (by omega)) (by rfl) gT FT.kp bT .nil pass0 (pa_cons (pv 0) (pa_cons pe_int (pa_cons pe_int pa_nil))))))
        (pss_one (ps_ret (pe_tup (pa_cons (pe_tup pa_nil) (pa_cons pe_str pa_nil))))) pss_nil)
      (pss_cons (ps_asg (pv 0) (pg_tup rfl (pgs_cons (pg_name (i := 1) scIErr.nd rfl (.inl rfl)) (pgs_cons (pg_name (i := 2) scIErr.nd rfl (.inl rfl)) pgs_nil))))
      (pss_cons (ps_set (i := 3) scIErr.nd rfl (.inl rfl) (pe_call GP (hr.mono (by omega)) (by rfl) gP FP.kp bP .nil pass0 (pa_cons (pv 1) pa_nil)))
      (pss_cons (ps_if (pt_cmp (pc_isN (pv 3))) (pss_one (ps_set (i := 3) scIErr.nd rfl (.inl rfl) (pe_call GG (hr.mono (by omega)) (by rfl) gG FG.kp bG .nil pass0 (pa_cons (pv 2) (pa_cons (pe_callB call_len_seq (by rfl) ml PySem.boot_len (pa_cons (pv 1) pa_nil)) pa_nil))))) pss_nil)
      (pss_one (ps_ret (pv 3)))))), ?_⟩
    refine ⟨v, rfl, st, r, v, d, _, _, rfl, hd, ?_⟩
    cases hb : tupOfD 2 2 d with
    | false =>
      refine ⟨_, rfl, iteT ⟨Nat.zero_le _, fun p1 n1 => ⟨(show (2 : Nat) ≤ sizeLine by decide), fun p2 n2 => ?_⟩⟩⟩
      obtain ⟨s1, h1⟩ := err_fin (K := K) [] "instance" n1 n2
      refine q _ _ s1 ?_
      rw [show instE d = some (err [] "instance") by
        unfold instE
        split
        · simp [tupOfD] at hb
        · rfl]
      exact h1
    | true =>
    refine ⟨_, rfl, iteF ?_⟩
    cases d with
    | none | bool _ | int _ | str _ | list _ | dict _ => simp [tupOfD] at hb
    | tuple ds =>
    obtain ⟨da, db, rfl⟩ := two_of hb
    cases hd with
    | @tup a zs _ hg hz =>
    cases hz with
    | @cons va _ _ _ hva hz =>
    cases hz with
    | @cons vb _ _ _ hvb hz =>
    cases hz
    refine ⟨.ref a, rfl, a, _, rfl, hg, rfl, va, _, rfl, vb, _, rfl, rfl, ?_⟩
    refine ⟨va, rfl, st, r, va, da, rfl, hva, fun H2 x s2 hx => ?_⟩
    cases hp : postsE da with
    | some e =>
      have hE : instE (.tuple [da, db]) = some e := by rw [instE_pair, hp]
      rw [hp] at hx
      obtain ⟨path, sx, rfl⟩ := postsE_err hp
      obtain ⟨xa, rfl⟩ := err_ref (show Dp K H2 x (err path sx) from hx)
      refine ⟨.ref xa, rfl, _, rfl, iteF ⟨.ref xa, rfl, q _ _ s2 ?_⟩⟩
      rw [hE]
      exact hx
    | none =>
      rw [hp] at hx
      have hxn : x = .non := by
        have : Dp K H2 x .none := hx
        cases this; rfl
      subst hxn
      obtain ⟨ds, rfl, h1, h6⟩ := postsE_ok hp
      cases hva with
      | @tup pa xs _ hpq hps =>
      have hl := DqAll.len hps
      have hE : instE (.tuple [.tuple ds, db]) = groupsE (ds.length : Nat) db := by rw [instE_pair, hp]; rfl
      refine ⟨.non, rfl, _, rfl, iteT ?_⟩
      refine ⟨vb, rfl, .ref pa, rfl, pa, xs, rfl, .inr ((TupK.of s2).sq hpq), st, r, vb, db, xs.length, rfl, hvb.lasts (.of s2), by omega, fun H3 y s3 hy => ⟨y, rfl, q _ _ (s2.trans s3) ?_⟩⟩
      rw [hE, ← hl]
      exact hy
end
end Pv
namespace Pv
open PySem PySem.Spec PyProof.Rows L2
/-! repr of any such value -/
theorem call_reprA {X : Cx} (hg : X.A.guards = some []) (hu : X.A.units + 70 < cLine) : CallR X (.builtin "repr")
    (fun xs H Q => ∃ v d st r, xs = [v] ∧ Dq X.K st r H v d ∧ d.showable = true ∧ d.depth ≤ 60 ∧ d.shown.length ≤ sizeLine ∧ Q (.str d.shown) H) := by
  intro pins s σ H xs us Q I rv h
  obtain ⟨v, d, st, r, rfl, hd, h1, h3, h4, q⟩ := h
  by_cases hv : ∃ a, v = .ref a
  · obtain ⟨a, rfl⟩ := hv
    exact call_reprQ hg hu pins s σ H _ us Q I rv ⟨a, d, st, r, rfl, hd, h1, h3, h4, q⟩
  · obtain ⟨u, rfl, ru⟩ := vals1 rv
    cases hd with
    | non => cases ru; exact PySem.P.repr_of_none ⟨.str _, H, I.tok _, ⟨_, rfl⟩, q⟩
    | bl b => cases ru; cases b <;> exact PySem.P.repr_of_bool ⟨.str _, H, I.tok _, ⟨_, rfl⟩, q⟩
    | int i =>
      obtain ⟨t, rfl⟩ := ru
      exact PySem.P.repr_of_int (by simpa [PyData.showable] using h1) ⟨.str _, H, I.tok _, ⟨_, rfl⟩, q⟩
    | str x =>
      obtain ⟨t, rfl⟩ := ru
      exact PySem.P.repr_of_str ⟨.str _, H, I.tok _, ⟨_, rfl⟩, q⟩ h4
    | lst _ => exact absurd ⟨_, rfl⟩ hv
    | tup _ => exact absurd ⟨_, rfl⟩ hv
    | dct _ => exact absurd ⟨_, rfl⟩ hv
/-! written values -/
def tLit (K : PySem.W.Frag) (d : PyData) : TE := fun _ H Q => ∃ st r, (H st ≠ none ∧ H r ≠ none) ∧ ∀ H' v, Same H H' → Dq K st r H' v d → Q v H'
def tLits (K : PySem.W.Frag) (ds : List PyData) : TA := fun _ H Q => ∃ st r, (H st ≠ none ∧ H r ≠ none) ∧ ∀ H' vs, Same H H' → DqAll K st r H' vs ds → Q vs H'
theorem DqAll.rep {K : PySem.W.Frag} {st r : Addr} {H : Hp} {vs : List V} {ds : List PyData} (h : DqAll K st r H vs ds) : ∀ k : Nat, DqAll K st r H (List.replicate k vs).flatten (List.replicate k ds).flatten
  | 0 => .nil
  | k + 1 => by
    rw [List.replicate_succ, List.replicate_succ, List.flatten_cons, List.flatten_cons]
    exact h.app (DqAll.rep h k)
section
variable {X : Cx} {e : Expr} {es : List Expr} {pos p1 p2 : Pos} {d : PyData} {ds : List PyData}
end
/-! how large, by looking -/
end Pv
namespace Pv
open PySem PySem.Spec PyProof.Rows L2
section
variable {K : PySem.W.Frag} {H : Hp} {a b : Addr} {xs ys : List V} {Q : VK}
/-! slices and sums of tuples, whichever object comes back -/
theorem take_eq (hP : SqT K H a xs) (n : Nat) (h : ∀ (H' : Hp) (b : Addr), Same H H' → SqT K H' b (xs.take n) → Q (.ref b) H') : rSlA K (.ref a) none (some (n : Int)) H Q := by
  have hcut : cutV xs none (some (n : Int)) = xs.take n := cut_to _ n
  refine ⟨a, _, rfl, hP, fun hw => ?_, fun _ p np => ?_⟩
  · refine h H a (Same.refl _) ?_
    have e : xs.take n = xs := by
      rw [← hcut]
      unfold cutV
      rw [hw.1, hw.2, List.drop_zero, Nat.sub_zero, List.take_length]
    rw [e]; exact hP
  · refine h _ p (sameNew np) (SqT.of ?_)
    rw [upd_same, hcut]
theorem cut_tail (xs : List V) (n : Nat) : cutV xs (some (n : Int)) none = xs.drop n := by
  unfold cutV
  rw [HT.sIx_nat, HT.sIx_none]
  by_cases h : n ≤ xs.length
  · rw [Nat.min_eq_left h, List.take_of_length_le (by rw [List.length_drop]; exact Nat.le_refl _)]
  · rw [Nat.min_eq_right (by omega), List.drop_eq_nil_of_le (Nat.le_refl _), List.drop_eq_nil_of_le (by omega)]; simp
theorem drop_eq (hP : SqT K H a xs) (n : Nat) (h : ∀ (H' : Hp) (b : Addr), Same H H' → SqT K H' b (xs.drop n) → Q (.ref b) H') : rSlA K (.ref a) (some (n : Int)) none H Q := by
  have hcut := cut_tail xs n
  refine ⟨a, _, rfl, hP, fun hw => ?_, fun _ p np => ?_⟩
  · refine h H a (Same.refl _) ?_
    have e : xs.drop n = xs := by
      rw [← hcut]
      unfold cutV
      rw [hw.1, hw.2, List.drop_zero, Nat.sub_zero, List.take_length]
    rw [e]; exact hP
  · refine h _ p (sameNew np) (SqT.of ?_)
    rw [upd_same, hcut]
theorem cat_eq (ha : SqT K H a xs) (hb : SqT K H b ys) (hz : xs.length + ys.length ≤ sizeLine) (h : ∀ (H' : Hp) (p : Addr), Same H H' → SqT K H' p (xs ++ ys) → Q (.ref p) H') : rCatA K (.ref a) (.ref b) H Q := by
  refine ⟨a, b, xs, ys, rfl, rfl, ha, hb, hz, fun e => ?_, fun _ e => ?_, fun _ _ p np => ?_⟩
  · subst e; exact h H b (Same.refl _) (by simpa using hb)
  · subst e; exact h H a (Same.refl _) (by simpa using ha)
  · exact h _ p (sameNew np) (SqT.of upd_same)
end
/-! the greatest of a tuple of ints -/
def rMaxT (K : PySem.W.Frag) : RC := fun xs H Q => ∃ (a : Addr) (ns : List Int), xs = [.ref a] ∧ SqT K H a (ns.map V.int) ∧ 0 < ns.length ∧ ∀ m, m ∈ ns → (∀ y ∈ ns, y ≤ m) → Q (.int m) H
end Pv
namespace Pv
open PySem PySem.Spec PyProof.Rows L2
abbrev sIP : Stmt := topS 31
theorem scIP : FnScope ["instance", "value"] ["instance", "value"] (defScope sIP) := ⟨rfl, rfl, rfl, by decide +kernel, rfl, by decide +kernel, by decide +kernel⟩
abbrev sIG : Stmt := topS 32
theorem scIG : FnScope ["instance", "value"] ["instance", "value"] (defScope sIG) := ⟨rfl, rfl, rfl, by decide +kernel, rfl, by decide +kernel, by decide +kernel⟩
abbrev sWI : Stmt := topS 41
theorem scWI : FnScope ["items", "at", "item"] ["items", "at", "item"] (defScope sWI) := ⟨rfl, rfl, rfl, by decide +kernel, rfl, by decide +kernel, by decide +kernel⟩
abbrev sWC : Stmt := topS 42
theorem scWC : FnScope ["instance", "post", "capacity"] ["instance", "post", "capacity"] (defScope sWC) := ⟨rfl, rfl, rfl, by decide +kernel, rfl, by decide +kernel, by decide +kernel⟩
abbrev sWN : Stmt := topS 43
theorem scWN : FnScope ["instance", "group", "count"] ["instance", "group", "count"] (defScope sWN) := ⟨rfl, rfl, rfl, by decide +kernel, rfl, by decide +kernel, by decide +kernel⟩
abbrev sWL : Stmt := topS 44
theorem scWL : FnScope ["instance", "group", "posts"] ["instance", "group", "posts"] (defScope sWL) := ⟨rfl, rfl, rfl, by decide +kernel, rfl, by decide +kernel, by decide +kernel⟩
abbrev sLP : Stmt := topS 80
theorem scLP : FnScope ["_law_items", "_law_spot", "_law_item"] ["_law_items", "_law_spot", "_law_item"] (defScope sLP) := ⟨rfl, rfl, rfl, by decide +kernel, rfl, by decide +kernel, by decide +kernel⟩
abbrev siBN : Stmt := inCls (topS 13) 0
theorem sciBN : FnScope ["self", "value"] ["self", "value"] (defScope siBN) := ⟨rfl, rfl, rfl, by decide +kernel, rfl, by decide +kernel, by decide +kernel⟩
theorem ok_iBN {P : Program} {w : World} {K : PySem.W.Frag} {mg : Str → Option Value} {base : Heap} {f C : Addr} {fd : FuncData} (F : Fun K "__init__" "BadNumber.__init__" siBN f fd) (X : XF K C f "value") : FnOk P w K mg base CX0 1 f fd ["self", "value"] (spI1 C "value") := by
  refine F.ok sciBN (fun vs H Q E h => ?_) (fun cdv A outer s H vs Q E hr h => ?_)
  · obtain ⟨a, v, rfl, _⟩ := h; rfl
  · obtain ⟨a, v, rfl, hH, q⟩ := h
    refine ⟨_, pss_one (ps_ost (pv 0) (pv 1)), ?_⟩
    exact ⟨v, rfl, .ref a, rfl, a, C, rfl, X.T, X.no, .inl ⟨hH, fun dx nd ne => q dx nd ne⟩⟩
abbrev siBL : Stmt := inCls (topS 14) 0
theorem sciBL : FnScope ["self", "value"] ["self", "value"] (defScope siBL) := ⟨rfl, rfl, rfl, by decide +kernel, rfl, by decide +kernel, by decide +kernel⟩
theorem ok_iBL {P : Program} {w : World} {K : PySem.W.Frag} {mg : Str → Option Value} {base : Heap} {f C : Addr} {fd : FuncData} (F : Fun K "__init__" "BadList.__init__" siBL f fd) (X : XF K C f "value") : FnOk P w K mg base CX0 1 f fd ["self", "value"] (spI1 C "value") := by
  refine F.ok sciBL (fun vs H Q E h => ?_) (fun cdv A outer s H vs Q E hr h => ?_)
  · obtain ⟨a, v, rfl, _⟩ := h; rfl
  · obtain ⟨a, v, rfl, hH, q⟩ := h
    refine ⟨_, pss_one (ps_ost (pv 0) (pv 1)), ?_⟩
    exact ⟨v, rfl, .ref a, rfl, a, C, rfl, X.T, X.no, .inl ⟨hH, fun dx nd ne => q dx nd ne⟩⟩
abbrev siNP : Stmt := inCls (topS 23) 0
theorem sciNP : FnScope ["self", "value"] ["self", "value"] (defScope siNP) := ⟨rfl, rfl, rfl, by decide +kernel, rfl, by decide +kernel, by decide +kernel⟩
theorem ok_iNP {P : Program} {w : World} {K : PySem.W.Frag} {mg : Str → Option Value} {base : Heap} {f C : Addr} {fd : FuncData} (F : Fun K "__init__" "NoPost.__init__" siNP f fd) (X : XL K C f "value") : FnOk P w K mg base CX0 1 f fd ["self", "value"] (spI1 C "value") := by
  refine F.ok sciNP (fun vs H Q E h => ?_) (fun cdv A outer s H vs Q E hr h => ?_)
  · obtain ⟨a, v, rfl, _⟩ := h; rfl
  · obtain ⟨a, v, rfl, hH, q⟩ := h
    refine ⟨_, pss_one (ps_ostL (pv 0) (pv 1)), ?_⟩
    exact ⟨v, rfl, .ref a, rfl, a, C, rfl, X.T, X.no, hH, fun dx nd ne => q dx nd ne⟩
abbrev siNG : Stmt := inCls (topS 24) 0
theorem sciNG : FnScope ["self", "value"] ["self", "value"] (defScope siNG) := ⟨rfl, rfl, rfl, by decide +kernel, rfl, by decide +kernel, by decide +kernel⟩
theorem ok_iNG {P : Program} {w : World} {K : PySem.W.Frag} {mg : Str → Option Value} {base : Heap} {f C : Addr} {fd : FuncData} (F : Fun K "__init__" "NoGroup.__init__" siNG f fd) (X : XL K C f "value") : FnOk P w K mg base CX0 1 f fd ["self", "value"] (spI1 C "value") := by
  refine F.ok sciNG (fun vs H Q E h => ?_) (fun cdv A outer s H vs Q E hr h => ?_)
  · obtain ⟨a, v, rfl, _⟩ := h; rfl
  · obtain ⟨a, v, rfl, hH, q⟩ := h
    refine ⟨_, pss_one (ps_ostL (pv 0) (pv 1)), ?_⟩
    exact ⟨v, rfl, .ref a, rfl, a, C, rfl, X.T, X.no, hH, fun dx nd ne => q dx nd ne⟩
def bnd (door : Nat) (cs : List Int) (gs : List Gp) : Int := (if door = 0 then (cs.length : Int) else (gs.length : Int)) - 1
def ok1 (door : Nat) (cs : List Int) (gs : List Gp) (d : PyData) : Bool := withinD 0 (bnd door cs gs) d
def ok2 (door : Nat) (cs : List Int) (d : PyData) : Bool := if door = 2 then listD cs.length d else withinD 1 (10 ^ 12) d
def idx : PyData → Nat
  | .int a => a.toNat
  | _ => 0
def numD : PyData → Int
  | .int a => a
  | _ => 0
def lstD (d : PyData) : List Int := (intsOf d).getD []
def gat (gs : List Gp) (i : Nat) : Gp := gs.getD i ([], 0)
def resI (door : Nat) (cs : List Int) (gs : List Gp) (d1 d2 : PyData) : List Int × List Gp :=
  if door = 0 then (cs.set (idx d1) (numD d2), gs) else if door = 1 then (cs, gs.set (idx d1) ((gat gs (idx d1)).1, numD d2)) else (cs, gs.set (idx d1) (lstD d2, (gat gs (idx d1)).2))
def toldD (door : Nat) (cs : List Int) (gs : List Gp) (d1 d2 : PyData) : PyData :=
  if ok1 door cs gs d1 = false then .list [.str (if door = 0 then "no post" else "no group"), .str d1.shown, .bool true]
  else if ok2 door cs d2 = false then .list [.str (if door = 2 then "list" else "number"), .str d2.shown, .bool true]
  else .list [.str "returned", dInst (resI door cs gs d1 d2).1 (resI door cs gs d1 d2).2]
theorem within_int {a b : Int} {d : PyData} (h : withinD a b d = true) : ∃ i, d = .int i ∧ a ≤ i ∧ i ≤ b := by
  cases d with
  | int i => exact ⟨i, rfl, of_decide_eq_true h⟩
  | _ => simp [withinD] at h
theorem list_ints {n : Int} {d : PyData} (h : listD n d = true) : ∃ row, d = dI row ∧ lstD d = row := by
  unfold listD at h
  cases e : intsOf d with
  | none => rw [e] at h; cases h
  | some row =>
    refine ⟨row, ?_, by unfold lstD; rw [e]; rfl⟩
    cases d with
    | tuple ds => have e' : intsAll ds = some row := e; rw [intsAll_eq e']; rfl
    | _ => simp [intsOf] at e
theorem gat_at {gs : List Gp} {i : Nat} {g : Gp} (h : gs[i]? = some g) : gat gs i = g := by unfold gat; rw [List.getD_eq_getElem?_getD, h]; rfl
theorem grp_at {K : PySem.W.Frag} {H : Hp} {xs : List V} {gs : List Gp} (h : DpAll K H xs (gs.map dGrp)) {i : Nat} {g : Gp} (hg : gs[i]? = some g) : ∃ a p, xs[i]? = some (.ref a) ∧ SqT K H a [.ref p, .int g.2] ∧ SqT K H p (g.1.map V.int) := by
  have hl := DpAll.len h
  rw [List.length_map] at hl
  have hi : i < xs.length := by rw [hl]; exact (List.getElem?_eq_some_iff.mp hg).1
  obtain ⟨d, hd, hx⟩ := DpAll.at h (List.getElem?_eq_getElem hi)
  rw [List.getElem?_map, hg] at hd
  cases hd
  obtain ⟨a, p, e, h1, h2⟩ := grp_ref hx
  exact ⟨a, p, by rw [List.getElem?_eq_getElem hi, e], h1, h2⟩
theorem DpAll.set {K : PySem.W.Frag} {H : Hp} : ∀ {vs : List V} {ds : List PyData} {v : V} {d : PyData} (i : Nat), DpAll K H vs ds → Dp K H v d → DpAll K H (vs.set i v) (ds.set i d)
  | _, _, _, _, _, .nil, _ => .nil
  | _, _, _, _, 0, .cons _ t, h' => .cons h' t
  | _, _, _, _, i + 1, .cons h t, h' => .cons h (DpAll.set i t h')
def rReprA (K : PySem.W.Frag) : RC := fun xs H Q => ∃ v d st r, xs = [v] ∧ Dq K st r H v d ∧ d.showable = true ∧ d.depth ≤ 60 ∧ d.shown.length ≤ sizeLine ∧ Q (.str d.shown) H
theorem call_reprR {X : Cx} (hg : X.A.guards = some []) (hu : X.A.units + 70 < cLine) : CallR X (.builtin "repr") (rReprA X.K) := call_reprA hg hu
section
variable {P : Program} {w : World} {K : PySem.W.Frag} {mg : Str → Option Value} {base : Heap}
def spIsP (K : PySem.W.Frag) (door : Nat) : Sp := fun vs H Q _ => ∃ (st r i : Addr) (v : V) (cs : List Int) (gs : List Gp) (d : PyData), vs = [.ref i, v] ∧ Dp K H (.ref i) (dInst cs gs) ∧ Dq K st r H v d ∧ Q (.bl (withinD 0 (bnd door cs gs) d)) H
theorem ok_IP {f fWi : Addr} {fd fdWi : FuncData} (F : Fun K "is_post" "is_post" sIP f fd)
    (FWi : Fun K "is_within" "is_within" sWithin fWi fdWi) (bWi : Binds K fdWi ["value", "least", "most"] []) (gWi : mg "is_within" = some (.ref fWi)) (GWi : FnOk P w K mg base CX0 2 fWi fdWi ["value", "least", "most"] (spWithin K))
    (m_len : mg "len" = none) :
    FnOk P w K mg base CX0 3 f fd ["instance", "value"] (spIsP K 0) := by
  refine F.ok scIP (fun vs H Q E h => ?_) (fun cdv A outer s H vs Q E hr h => ?_)
  · obtain ⟨st, r, i, v, cs, gs, d, rfl, _⟩ := h; rfl
  · obtain ⟨st, r, i, v, cs, gs, d, rfl, hI, hd, q⟩ := h
    refine ⟨_, pss_one (ps_ret (pe_call GWi (hr.mono (by omega)) (by rfl) gWi FWi.kp bWi .nil pass0 (pa_cons (pv 1) (pa_cons (pe_int) (pa_cons (pe_op op_sub (pe_callB call_lenQ (by rfl) m_len PySem.boot_len (pa_cons (pe_ix ix_tup (pv 0) (pe_int) (fun _ _ => rfl)) pa_nil)) (pe_int)) pa_nil))))), ?_⟩
    obtain ⟨_, ca, ga, xs, e, hi, hc, hgt, hgs⟩ := inst_open hI
    cases e
    have lx := DpAll.len hgs
    rw [List.length_map] at lx
    refine ⟨v, rfl, .ref i, rfl, i, _, 0, .ref ca, rfl, rfl, hi, atI_nat (j := 0) rfl, ca, _, rfl, .inr hc, _, _, rfl, rfl, st, r, v, d, _, _, rfl, hd, ?_⟩
    have e : (((((cs.map V.int).length) : Nat) : Int) - 1) = bnd 0 cs gs := by unfold bnd; rw [List.length_map]; rfl
    rw [e]
    exact q
theorem ok_IG {f fWi : Addr} {fd fdWi : FuncData} (F : Fun K "is_group" "is_group" sIG f fd)
    (FWi : Fun K "is_within" "is_within" sWithin fWi fdWi) (bWi : Binds K fdWi ["value", "least", "most"] []) (gWi : mg "is_within" = some (.ref fWi)) (GWi : FnOk P w K mg base CX0 2 fWi fdWi ["value", "least", "most"] (spWithin K))
    (m_len : mg "len" = none) :
    FnOk P w K mg base CX0 3 f fd ["instance", "value"] (spIsP K 1) := by
  refine F.ok scIG (fun vs H Q E h => ?_) (fun cdv A outer s H vs Q E hr h => ?_)
  · obtain ⟨st, r, i, v, cs, gs, d, rfl, _⟩ := h; rfl
  · obtain ⟨st, r, i, v, cs, gs, d, rfl, hI, hd, q⟩ := h
    refine ⟨_, pss_one (ps_ret (pe_call GWi (hr.mono (by omega)) (by rfl) gWi FWi.kp bWi .nil pass0 (pa_cons (pv 1) (pa_cons (pe_int) (pa_cons (pe_op op_sub (pe_callB call_lenQ (by rfl) m_len PySem.boot_len (pa_cons (pe_ix ix_tup (pv 0) (pe_int) (fun _ _ => rfl)) pa_nil)) (pe_int)) pa_nil))))), ?_⟩
    obtain ⟨_, ca, ga, xs, e, hi, hc, hgt, hgs⟩ := inst_open hI
    cases e
    have lx := DpAll.len hgs
    rw [List.length_map] at lx
    refine ⟨v, rfl, .ref i, rfl, i, _, 1, .ref ga, rfl, rfl, hi, atI_nat (j := 1) rfl, ga, _, rfl, .inr hgt, _, _, rfl, rfl, st, r, v, d, _, _, rfl, hd, ?_⟩
    have e : ((((xs.length) : Nat) : Int) - 1) = bnd 1 cs gs := by unfold bnd; rw [lx]; rfl
    rw [e]
    exact q
def spWI (K : PySem.W.Frag) : Sp := fun vs H Q _ => ∃ (a : Addr) (xs : List V) (n : Nat) (v : V), vs = [.ref a, .int n, v] ∧ SqT K H a xs ∧ n < xs.length ∧ xs.length ≤ 1000 ∧ ∀ H' p, Same H H' → SqT K H' p (xs.set n v) → Q (.ref p) H'
theorem ok_WI {f : Addr} {fd : FuncData} (F : Fun K "with_item" "with_item" sWI f fd)
     :
    FnOk P w K mg base CX0 1 f fd ["items", "at", "item"] (spWI K) := by
  refine F.ok scWI (fun vs H Q E h => ?_) (fun cdv A outer s H vs Q E hr h => ?_)
  · obtain ⟨a, xs, n, v, rfl, _⟩ := h; rfl
  · obtain ⟨a, xs, n, v, rfl, hA, hn, hx, q⟩ := h
    refine ⟨_, pss_one (ps_ret (pe_op op_catA (pe_op op_catA (pe_slice sl_tupA (pv 0) po_none (po_some (pv 1))) (pe_tup (pa_cons (pv 2) pa_nil))) (pe_slice sl_tupA (pv 0) (po_some (pe_op op_add (pv 1) (pe_int))) po_none))), ?_⟩
    refine ⟨.ref a, rfl, .int (n : Nat), rfl, _, rfl, take_eq hA n (fun H1 b s1 hb => ⟨v, rfl, (show (1 : Nat) ≤ sizeLine by decide), fun T nT => ?_⟩)⟩
    have sT := sameNew (o := .tup [v]) nT
    refine cat_eq ((TupK.of sT).sq hb) (SqT.of upd_same) (Nat.le_of_lt (small (by rw [List.length_take]; simp; omega))) (fun H2 p2 s2 h2 => ⟨.ref a, rfl, .int (n : Nat), rfl, _, _, rfl, rfl, _, rfl, ?_⟩)
    have s02 := (s1.trans sT).trans s2
    dsimp only [tNoPart]
    rw [show ((n : Int) + 1) = ((n + 1 : Nat) : Int) by omega]
    refine drop_eq ((TupK.of s02).sq hA) (n + 1) (fun H3 p3 s3 h3 => ?_)
    refine cat_eq ((TupK.of s3).sq h2) h3 (Nat.le_of_lt (small (by simp [List.length_take, List.length_drop]; omega))) (fun H4 p4 s4 h4 => ?_)
    refine q H4 p4 ((s02.trans s3).trans s4) ?_
    have e : xs.set n v = (xs.take n ++ [v]) ++ xs.drop (n + 1) := by rw [List.set_eq_take_append_cons_drop, if_pos hn]; simp
    rw [e]
    exact h4
theorem ok_LP {f : Addr} {fd : FuncData} (F : Fun K "_law_put" "_law_put" sLP f fd)
     :
    FnOk P w K mg base CX0 1 f fd ["_law_items", "_law_spot", "_law_item"] (spWI K) := by
  refine F.ok scLP (fun vs H Q E h => ?_) (fun cdv A outer s H vs Q E hr h => ?_)
  · obtain ⟨a, xs, n, v, rfl, _⟩ := h; rfl
  · obtain ⟨a, xs, n, v, rfl, hA, hn, hx, q⟩ := h
    refine ⟨_, pss_one (ps_ret (pe_op op_catA (pe_op op_catA (pe_slice sl_tupA (pv 0) po_none (po_some (pv 1))) (pe_tup (pa_cons (pv 2) pa_nil))) (pe_slice sl_tupA (pv 0) (po_some (pe_op op_add (pv 1) (pe_int))) po_none))), ?_⟩
    refine ⟨.ref a, rfl, .int (n : Nat), rfl, _, rfl, take_eq hA n (fun H1 b s1 hb => ⟨v, rfl, (show (1 : Nat) ≤ sizeLine by decide), fun T nT => ?_⟩)⟩
    have sT := sameNew (o := .tup [v]) nT
    refine cat_eq ((TupK.of sT).sq hb) (SqT.of upd_same) (Nat.le_of_lt (small (by rw [List.length_take]; simp; omega))) (fun H2 p2 s2 h2 => ⟨.ref a, rfl, .int (n : Nat), rfl, _, _, rfl, rfl, _, rfl, ?_⟩)
    have s02 := (s1.trans sT).trans s2
    dsimp only [tNoPart]
    rw [show ((n : Int) + 1) = ((n + 1 : Nat) : Int) by omega]
    refine drop_eq ((TupK.of s02).sq hA) (n + 1) (fun H3 p3 s3 h3 => ?_)
    refine cat_eq ((TupK.of s3).sq h2) h3 (Nat.le_of_lt (small (by simp [List.length_take, List.length_drop]; omega))) (fun H4 p4 s4 h4 => ?_)
    refine q H4 p4 ((s02.trans s3).trans s4) ?_
    have e : xs.set n v = (xs.take n ++ [v]) ++ xs.drop (n + 1) := by rw [List.set_eq_take_append_cons_drop, if_pos hn]; simp
    rw [e]
    exact h4
def spW (K : PySem.W.Frag) (door : Nat) (c1 c2 : Addr) : Sp := fun vs H Q E => ∃ (st r i : Addr) (v1 v2 : V) (cs : List Int) (gs : List Gp) (d1 d2 : PyData), vs = [.ref i, v1, v2] ∧ Dp K H (.ref i) (dInst cs gs) ∧ InsOk cs gs ∧ Dq K st r H v1 d1 ∧ Dq K st r H v2 d2 ∧
  ∀ H', Same H H' → (ok1 door cs gs d1 = false → ∀ d, H' d = none → E (.ref c1) (some d) (upd H' d (.xd [("value", v1)]))) ∧
    (ok1 door cs gs d1 = true → ok2 door cs d2 = false → ∀ d, H' d = none → E (.ref c2) (some d) (upd H' d (.xd [("value", v2)]))) ∧
    (ok1 door cs gs d1 = true → ok2 door cs d2 = true → ∀ p, Dp K H' (.ref p) (dInst (resI door cs gs d1 d2).1 (resI door cs gs d1 d2).2) → Q (.ref p) H')
set_option maxHeartbeats 2000000 in
theorem ok_WC {f fIP fWi fWI : Addr} {fd fdIP fdWi fdWI : FuncData} (F : Fun K "with_capacity" "with_capacity" sWC f fd)
    (FIP : Fun K "is_post" "is_post" sIP fIP fdIP) (bIP : Binds K fdIP ["instance", "value"] []) (gIP : mg "is_post" = some (.ref fIP)) (GIP : FnOk P w K mg base CX0 3 fIP fdIP ["instance", "value"] (spIsP K 0))
    (FWi : Fun K "is_within" "is_within" sWithin fWi fdWi) (bWi : Binds K fdWi ["value", "least", "most"] []) (gWi : mg "is_within" = some (.ref fWi)) (GWi : FnOk P w K mg base CX0 2 fWi fdWi ["value", "least", "most"] (spWithin K))
    (FWI : Fun K "with_item" "with_item" sWI fWI fdWI) (bWI : Binds K fdWI ["items", "at", "item"] []) (gWI : mg "with_item" = some (.ref fWI)) (GWI : FnOk P w K mg base CX0 1 fWI fdWI ["items", "at", "item"] (spWI K))
    {cNP : Addr} {fiNP : Addr} {fdiNP : FuncData} (gNP : mg "NoPost" = some (.ref cNP)) (XNP : XL K cNP fiNP "value") (GiNP : FnOk P w K mg base CX0 1 fiNP fdiNP ["self", "value"] (spI1 cNP "value")) (biNP : Binds K fdiNP ["self", "value"] [])
    {cBN : Addr} {fiBN : Addr} {fdiBN : FuncData} (gBN : mg "BadNumber" = some (.ref cBN)) (XBN : XF K cBN fiBN "value") (GiBN : FnOk P w K mg base CX0 1 fiBN fdiBN ["self", "value"] (spI1 cBN "value")) (biBN : Binds K fdiBN ["self", "value"] [])
    {uBIG : Value} (vBIG : mg "BIG" = some uBIG) (rBIG : RelV (.int 1000000000000) uBIG)
     :
    FnOk P w K mg base (L2.CX P w) 4 f fd ["instance", "post", "capacity"] (spW K 0 cNP cBN) := by
  refine F.okX scWC (fun vs H Q E h => ?_) (fun cdv A outer s H vs Q E hr h => ?_)
  · obtain ⟨st, r, i, v1, v2, cs, gs, d1, d2, rfl, _⟩ := h; rfl
  · obtain ⟨st, r, i, v1, v2, cs, gs, d1, d2, rfl, hI, ok, h1, h2, q⟩ := h
    refine ⟨_, pss_cons (ps_if (pt_not (pt_val (pe_call GIP (hr.mono (by omega)) (by rfl) gIP FIP.kp bIP .nil pass0 (pa_cons (pv 0) (pa_cons (pv 1) pa_nil)))))
        (pss_one (ps_raise rfl (takes_of rfl rfl rfl rfl) (pmk_le XNP.T XNP.iC XNP.tI GiNP (hr.mono (by omega)) biNP (by rfl) gNP (pa_cons (pv 1) pa_nil)))) pss_nil)
      (pss_cons (ps_if (pt_not (pt_val (pe_call GWi (hr.mono (by omega)) (by rfl) gWi FWi.kp bWi .nil pass0 (pa_cons (pv 2) (pa_cons (pe_int) (pa_cons (pe_glob (by rfl) vBIG rBIG) pa_nil))))))
        (pss_one (ps_raise rfl (takes_of rfl rfl rfl rfl) (pmk_oex XBN.T XBN.iC XBN.tI GiBN (hr.mono (by omega)) biBN .nil pass0 (by rfl) gBN (pa_cons (pv 2) pa_nil)))) pss_nil)
      (pss_one (ps_ret (pe_tup (pa_cons (pe_call GWI (hr.mono (by omega)) (by rfl) gWI FWI.kp bWI .nil pass0 (pa_cons (pe_ix ix_tup (pv 0) (pe_int) (fun _ _ => rfl)) (pa_cons (pv 1) (pa_cons (pv 2) pa_nil)))) (pa_cons (pe_ix ix_tup (pv 0) (pe_int) (fun _ _ => rfl)) pa_nil)))))), ?_⟩
    obtain ⟨_, ca, ga, xs, e, hi, hc, hgt, hgs⟩ := inst_open hI
    cases e
    have lx := DpAll.len hgs
    rw [List.length_map] at lx
    have h6 := ok.c6
    have h10 := ok.g10
    refine ⟨.ref i, rfl, v1, rfl, st, r, i, v1, cs, gs, d1, rfl, hI, h1, ?_⟩
    have e1 : withinD 0 (bnd 0 cs gs) d1 = ok1 0 cs gs d1 := rfl
    cases hb : ok1 0 cs gs d1 with
    | false =>
      rw [e1, hb]
      exact ⟨_, rfl, iteT ⟨v1, rfl, mkO1 fun d nd => (q H (Same.refl _)).1 hb d nd⟩⟩
    | true =>
    rw [e1, hb]
    refine ⟨_, rfl, iteF ?_⟩
    obtain ⟨a, rfl, ha0, ha1⟩ := within_int hb
    cases h1
    refine ⟨v2, rfl, st, r, v2, d2, _, _, rfl, h2, ?_⟩
    cases hb2 : withinD 1 1000000000000 d2 with
    | false => exact ⟨_, rfl, iteT ⟨v2, rfl, mkO1 fun d nd => (q H (Same.refl _)).2.1 hb hb2 d nd⟩⟩
    | true =>
    refine ⟨_, rfl, iteF ?_⟩
    obtain ⟨b, rfl, hb0, hb1⟩ := within_int hb2
    cases h2
    obtain ⟨n, rfl⟩ : ∃ n : Nat, a = n := ⟨a.toNat, by omega⟩
    have hn : n < cs.length := by have := ha1; unfold bnd at this; simp at this; omega
    refine ⟨.ref i, rfl, i, _, 0, .ref ca, rfl, rfl, hi, atI_nat (j := 0) rfl, .int (n : Nat), rfl, .int b, rfl, ca, _, n, .int b, rfl, hc, by rw [List.length_map]; exact hn, by rw [List.length_map]; omega, fun H1 p s1 hp => ?_⟩
    refine ⟨.ref i, rfl, i, _, 1, .ref ga, rfl, rfl, (TupK.of s1).sq hi, atI_nat (j := 1) rfl, (show (2 : Nat) ≤ sizeLine by decide), fun R nR => ?_⟩
    have sR := sameNew (o := .tup [.ref p, .ref ga]) nR
    refine (q _ (s1.trans sR)).2.2 hb hb2 R (.tup (SqT.of upd_same) (.cons (dI_sq ?_) (.cons (.tup ((TupK.of (s1.trans sR)).sq hgt) ((TupK.of (s1.trans sR)).dpAll _ _ (to_grps _) hgs)) .nil)))
    show SqT K _ p ((cs.set n b).map V.int)
    rw [List.map_set]
    exact (TupK.of sR).sq hp
set_option maxHeartbeats 2000000 in
theorem ok_WN {f fIG fWi fWI : Addr} {fd fdIG fdWi fdWI : FuncData} (F : Fun K "with_count" "with_count" sWN f fd)
    (FIG : Fun K "is_group" "is_group" sIG fIG fdIG) (bIG : Binds K fdIG ["instance", "value"] []) (gIG : mg "is_group" = some (.ref fIG)) (GIG : FnOk P w K mg base CX0 3 fIG fdIG ["instance", "value"] (spIsP K 1))
    (FWi : Fun K "is_within" "is_within" sWithin fWi fdWi) (bWi : Binds K fdWi ["value", "least", "most"] []) (gWi : mg "is_within" = some (.ref fWi)) (GWi : FnOk P w K mg base CX0 2 fWi fdWi ["value", "least", "most"] (spWithin K))
    (FWI : Fun K "with_item" "with_item" sWI fWI fdWI) (bWI : Binds K fdWI ["items", "at", "item"] []) (gWI : mg "with_item" = some (.ref fWI)) (GWI : FnOk P w K mg base CX0 1 fWI fdWI ["items", "at", "item"] (spWI K))
    {cNG : Addr} {fiNG : Addr} {fdiNG : FuncData} (gNG : mg "NoGroup" = some (.ref cNG)) (XNG : XL K cNG fiNG "value") (GiNG : FnOk P w K mg base CX0 1 fiNG fdiNG ["self", "value"] (spI1 cNG "value")) (biNG : Binds K fdiNG ["self", "value"] [])
    {cBN : Addr} {fiBN : Addr} {fdiBN : FuncData} (gBN : mg "BadNumber" = some (.ref cBN)) (XBN : XF K cBN fiBN "value") (GiBN : FnOk P w K mg base CX0 1 fiBN fdiBN ["self", "value"] (spI1 cBN "value")) (biBN : Binds K fdiBN ["self", "value"] [])
    {uBIG : Value} (vBIG : mg "BIG" = some uBIG) (rBIG : RelV (.int 1000000000000) uBIG)
     :
    FnOk P w K mg base (L2.CX P w) 4 f fd ["instance", "group", "count"] (spW K 1 cNG cBN) := by
  refine F.okX scWN (fun vs H Q E h => ?_) (fun cdv A outer s H vs Q E hr h => ?_)
  · obtain ⟨st, r, i, v1, v2, cs, gs, d1, d2, rfl, _⟩ := h; rfl
  · obtain ⟨st, r, i, v1, v2, cs, gs, d1, d2, rfl, hI, ok, h1, h2, q⟩ := h
    refine ⟨_, pss_cons (ps_if (pt_not (pt_val (pe_call GIG (hr.mono (by omega)) (by rfl) gIG FIG.kp bIG .nil pass0 (pa_cons (pv 0) (pa_cons (pv 1) pa_nil)))))
        (pss_one (ps_raise rfl (takes_of rfl rfl rfl rfl) (pmk_le XNG.T XNG.iC XNG.tI GiNG (hr.mono (by omega)) biNG (by rfl) gNG (pa_cons (pv 1) pa_nil)))) pss_nil)
      (pss_cons (ps_if (pt_not (pt_val (pe_call GWi (hr.mono (by omega)) (by rfl) gWi FWi.kp bWi .nil pass0 (pa_cons (pv 2) (pa_cons (pe_int) (pa_cons (pe_glob (by rfl) vBIG rBIG) pa_nil))))))
        (pss_one (ps_raise rfl (takes_of rfl rfl rfl rfl) (pmk_oex XBN.T XBN.iC XBN.tI GiBN (hr.mono (by omega)) biBN .nil pass0 (by rfl) gBN (pa_cons (pv 2) pa_nil)))) pss_nil)
      (pss_one (ps_ret (pe_tup (pa_cons (pe_ix ix_tup (pv 0) (pe_int) (fun _ _ => rfl)) (pa_cons (pe_call GWI (hr.mono (by omega)) (by rfl) gWI FWI.kp bWI .nil pass0 (pa_cons (pe_ix ix_tup (pv 0) (pe_int) (fun _ _ => rfl)) (pa_cons (pv 1) (pa_cons (pe_tup (pa_cons (pe_ix ix_tup (pe_ix ix_tup (pe_ix ix_tup (pv 0) (pe_int) (fun _ _ => rfl)) (pv 1) (fun _ _ => rfl)) (pe_int) (fun _ _ => rfl)) (pa_cons (pv 2) pa_nil))) pa_nil)))) pa_nil)))))), ?_⟩
    obtain ⟨_, ca, ga, xs, e, hi, hc, hgt, hgs⟩ := inst_open hI
    cases e
    have lx := DpAll.len hgs
    rw [List.length_map] at lx
    have h6 := ok.c6
    have h10 := ok.g10
    refine ⟨.ref i, rfl, v1, rfl, st, r, i, v1, cs, gs, d1, rfl, hI, h1, ?_⟩
    have e1 : withinD 0 (bnd 1 cs gs) d1 = ok1 1 cs gs d1 := rfl
    cases hb : ok1 1 cs gs d1 with
    | false =>
      rw [e1, hb]
      exact ⟨_, rfl, iteT ⟨v1, rfl, mkO1 fun d nd => (q H (Same.refl _)).1 hb d nd⟩⟩
    | true =>
    rw [e1, hb]
    refine ⟨_, rfl, iteF ?_⟩
    obtain ⟨a, rfl, ha0, ha1⟩ := within_int hb
    cases h1
    refine ⟨v2, rfl, st, r, v2, d2, _, _, rfl, h2, ?_⟩
    cases hb2 : withinD 1 1000000000000 d2 with
    | false => exact ⟨_, rfl, iteT ⟨v2, rfl, mkO1 fun d nd => (q H (Same.refl _)).2.1 hb hb2 d nd⟩⟩
    | true =>
    refine ⟨_, rfl, iteF ?_⟩
    obtain ⟨b, rfl, hb0, hb1⟩ := within_int hb2
    cases h2
    obtain ⟨n, rfl⟩ : ∃ n : Nat, a = n := ⟨a.toNat, by omega⟩
    have hn : n < gs.length := by have := ha1; unfold bnd at this; simp at this; omega
    obtain ⟨gA, pA, hx, hG, hP⟩ := grp_at hgs (List.getElem?_eq_getElem hn)
    refine ⟨.ref i, rfl, i, _, 0, .ref ca, rfl, rfl, hi, atI_nat (j := 0) rfl, .ref i, rfl, i, _, 1, .ref ga, rfl, rfl, hi, atI_nat (j := 1) rfl, .int (n : Nat), rfl,
      .ref i, rfl, i, _, 1, .ref ga, rfl, rfl, hi, atI_nat (j := 1) rfl, .int (n : Nat), rfl, ga, _, _, _, rfl, rfl, hgt, atI_nat hx, gA, _, 0, .ref pA, rfl, rfl, hG, atI_nat (j := 0) rfl, .int b, rfl, (show (2 : Nat) ≤ sizeLine by decide), fun T nT => ?_⟩
    have sT := sameNew (o := .tup [.ref pA, .int b]) nT
    refine ⟨ga, _, n, .ref T, rfl, (TupK.of sT).sq hgt, by omega, by omega, fun H1 p s1 hp => ⟨(show (2 : Nat) ≤ sizeLine by decide), fun R nR => ?_⟩⟩
    have sR := sameNew (o := .tup [.ref ca, .ref p]) nR
    have sA := (sT.trans s1).trans sR
    refine (q _ sA).2.2 hb hb2 R (.tup (SqT.of upd_same) (.cons (dI_sq ((TupK.of sA).sq hc)) (.cons (.tup ((TupK.of sR).sq hp) ?_) .nil)))
    show DpAll K _ _ ((gs.set n ((gat gs n).1, b)).map dGrp)
    rw [List.map_set, gat_at (List.getElem?_eq_getElem hn)]
    exact DpAll.set n ((TupK.of sA).dpAll _ _ (to_grps _) hgs) (.tup ((TupK.of (s1.trans sR)).sq (SqT.of upd_same)) (.cons (dI_sq ((TupK.of sA).sq hP)) (.cons (.int _) .nil)))
set_option maxHeartbeats 2000000 in
theorem ok_WL {f fIG fPL fWI : Addr} {fd fdIG fdPL fdWI : FuncData} (F : Fun K "with_list" "with_list" sWL f fd)
    (FIG : Fun K "is_group" "is_group" sIG fIG fdIG) (bIG : Binds K fdIG ["instance", "value"] []) (gIG : mg "is_group" = some (.ref fIG)) (GIG : FnOk P w K mg base CX0 3 fIG fdIG ["instance", "value"] (spIsP K 1))
    (FPL : Fun K "is_post_list" "is_post_list" sPList fPL fdPL) (bPL : Binds K fdPL ["value", "post_count"] []) (gPL : mg "is_post_list" = some (.ref fPL)) (GPL : FnOk P w K mg base CX0 3 fPL fdPL ["value", "post_count"] (spPList K))
    (FWI : Fun K "with_item" "with_item" sWI fWI fdWI) (bWI : Binds K fdWI ["items", "at", "item"] []) (gWI : mg "with_item" = some (.ref fWI)) (GWI : FnOk P w K mg base CX0 1 fWI fdWI ["items", "at", "item"] (spWI K))
    {cNG : Addr} {fiNG : Addr} {fdiNG : FuncData} (gNG : mg "NoGroup" = some (.ref cNG)) (XNG : XL K cNG fiNG "value") (GiNG : FnOk P w K mg base CX0 1 fiNG fdiNG ["self", "value"] (spI1 cNG "value")) (biNG : Binds K fdiNG ["self", "value"] [])
    {cBL : Addr} {fiBL : Addr} {fdiBL : FuncData} (gBL : mg "BadList" = some (.ref cBL)) (XBL : XF K cBL fiBL "value") (GiBL : FnOk P w K mg base CX0 1 fiBL fdiBL ["self", "value"] (spI1 cBL "value")) (biBL : Binds K fdiBL ["self", "value"] [])
    (m_len : mg "len" = none) :
    FnOk P w K mg base (L2.CX P w) 4 f fd ["instance", "group", "posts"] (spW K 2 cNG cBL) := by
  refine F.okX scWL (fun vs H Q E h => ?_) (fun cdv A outer s H vs Q E hr h => ?_)
  · obtain ⟨st, r, i, v1, v2, cs, gs, d1, d2, rfl, _⟩ := h; rfl
  · obtain ⟨st, r, i, v1, v2, cs, gs, d1, d2, rfl, hI, ok, h1, h2, q⟩ := h
    refine ⟨_, pss_cons (ps_if (pt_not (pt_val (pe_call GIG (hr.mono (by omega)) (by rfl) gIG FIG.kp bIG .nil pass0 (pa_cons (pv 0) (pa_cons (pv 1) pa_nil)))))
        (pss_one (ps_raise rfl (takes_of rfl rfl rfl rfl) (pmk_le XNG.T XNG.iC XNG.tI GiNG (hr.mono (by omega)) biNG (by rfl) gNG (pa_cons (pv 1) pa_nil)))) pss_nil)
      (pss_cons (ps_if (pt_not (pt_val (pe_call GPL (hr.mono (by omega)) (by rfl) gPL FPL.kp bPL .nil pass0 (pa_cons (pv 2) (pa_cons (pe_callB call_lenQ (by rfl) m_len PySem.boot_len (pa_cons (pe_ix ix_tup (pv 0) (pe_int) (fun _ _ => rfl)) pa_nil)) pa_nil)))))
        (pss_one (ps_raise rfl (takes_of rfl rfl rfl rfl) (pmk_oex XBL.T XBL.iC XBL.tI GiBL (hr.mono (by omega)) biBL .nil pass0 (by rfl) gBL (pa_cons (pv 2) pa_nil)))) pss_nil)
      (pss_one (ps_ret (pe_tup (pa_cons (pe_ix ix_tup (pv 0) (pe_int) (fun _ _ => rfl)) (pa_cons (pe_call GWI (hr.mono (by omega)) (by rfl) gWI FWI.kp bWI .nil pass0 (pa_cons (pe_ix ix_tup (pv 0) (pe_int) (fun _ _ => rfl)) (pa_cons (pv 1) (pa_cons (pe_tup (pa_cons (pv 2) (pa_cons (pe_ix ix_tup (pe_ix ix_tup (pe_ix ix_tup (pv 0) (pe_int) (fun _ _ => rfl)) (pv 1) (fun _ _ => rfl)) (pe_int) (fun _ _ => rfl)) pa_nil))) pa_nil)))) pa_nil)))))), ?_⟩
    obtain ⟨_, ca, ga, xs, e, hi, hc, hgt, hgs⟩ := inst_open hI
    cases e
    have lx := DpAll.len hgs
    rw [List.length_map] at lx
    have h6 := ok.c6
    have h10 := ok.g10
    refine ⟨.ref i, rfl, v1, rfl, st, r, i, v1, cs, gs, d1, rfl, hI, h1, ?_⟩
    have e1 : withinD 0 (bnd 1 cs gs) d1 = ok1 2 cs gs d1 := rfl
    cases hb : ok1 2 cs gs d1 with
    | false =>
      rw [e1, hb]
      exact ⟨_, rfl, iteT ⟨v1, rfl, mkO1 fun d nd => (q H (Same.refl _)).1 hb d nd⟩⟩
    | true =>
    rw [e1, hb]
    refine ⟨_, rfl, iteF ?_⟩
    obtain ⟨a, rfl, ha0, ha1⟩ := within_int hb
    cases h1
    refine ⟨v2, rfl, .ref i, rfl, i, _, 0, .ref ca, rfl, rfl, hi, atI_nat (j := 0) rfl, ca, _, rfl, .inr hc, st, r, v2, d2, _, rfl, h2, by omega, by rw [List.length_map]; omega, fun H1 s1 => ?_⟩
    rw [List.length_map]
    cases hb2 : listD cs.length d2 with
    | false => exact ⟨_, rfl, iteT ⟨v2, rfl, mkO1 fun d nd => (q H1 s1).2.1 hb hb2 d nd⟩⟩
    | true =>
    refine ⟨_, rfl, iteF ?_⟩
    obtain ⟨row, ed, el⟩ := list_ints hb2
    have tk1 := TupK.of s1
    obtain ⟨n, rfl⟩ : ∃ n : Nat, a = n := ⟨a.toNat, by omega⟩
    have hn : n < gs.length := by have := ha1; unfold bnd at this; simp at this; omega
    have hgs1 := tk1.dpAll _ _ (to_grps _) hgs
    obtain ⟨gA, pA, hx, hG, hP⟩ := grp_at hgs1 (List.getElem?_eq_getElem hn)
    have h21 := h2.lasts (.of s1)
    rw [ed] at h21
    have h21 := Dq.to_dp (to_dI _) h21
    obtain ⟨lA, rfl, hL⟩ := dI_ref h21
    refine ⟨.ref i, rfl, i, _, 0, .ref ca, rfl, rfl, tk1.sq hi, atI_nat (j := 0) rfl, .ref i, rfl, i, _, 1, .ref ga, rfl, rfl, tk1.sq hi, atI_nat (j := 1) rfl, .int (n : Nat), rfl,
      .ref lA, rfl, .ref i, rfl, i, _, 1, .ref ga, rfl, rfl, tk1.sq hi, atI_nat (j := 1) rfl, .int (n : Nat), rfl, ga, _, _, _, rfl, rfl, tk1.sq hgt, atI_nat hx, gA, _, 1, .int _, rfl, rfl, hG, atI_nat (j := 1) rfl, (show (2 : Nat) ≤ sizeLine by decide), fun T nT => ?_⟩
    have sT := sameNew (o := .tup [.ref lA, .int gs[n].2]) nT
    refine ⟨ga, _, n, .ref T, rfl, (TupK.of (s1.trans sT)).sq hgt, by omega, by omega, fun H2 p s2 hp => ⟨(show (2 : Nat) ≤ sizeLine by decide), fun R nR => ?_⟩⟩
    have sR := sameNew (o := .tup [.ref ca, .ref p]) nR
    have sA := (sT.trans s2).trans sR
    refine (q _ (s1.trans sA)).2.2 hb hb2 R (.tup (SqT.of upd_same) (.cons (dI_sq ((TupK.of (s1.trans sA)).sq hc)) (.cons (.tup ((TupK.of sR).sq hp) ?_) .nil)))
    show DpAll K _ _ ((gs.set n (lstD d2, (gat gs n).2)).map dGrp)
    rw [List.map_set, gat_at (List.getElem?_eq_getElem hn), el]
    exact DpAll.set n ((TupK.of sA).dpAll _ _ (to_grps _) hgs1) (.tup ((TupK.of (s2.trans sR)).sq (SqT.of upd_same)) (.cons (dI_sq ((TupK.of sA).sq hL)) (.cons (.int _) .nil)))
end
end Pv
namespace Pv
open PySem PySem.Spec PyProof.Rows L2
abbrev sAG : Stmt := topS 45
theorem scAG : FnScope ["instance", "posts", "count"] ["instance", "posts", "count"] (defScope sAG) := ⟨rfl, rfl, rfl, by decide +kernel, rfl, by decide +kernel, by decide +kernel⟩
abbrev sRG : Stmt := topS 46
theorem scRG : FnScope ["instance", "group"] ["instance", "group"] (defScope sRG) := ⟨rfl, rfl, rfl, by decide +kernel, rfl, by decide +kernel, by decide +kernel⟩
abbrev sAP : Stmt := topS 47
theorem scAP : FnScope ["instance", "capacity"] ["instance", "capacity"] (defScope sAP) := ⟨rfl, rfl, rfl, by decide +kernel, rfl, by decide +kernel, by decide +kernel⟩
abbrev sPW : Stmt := topS 49
theorem scPW : FnScope ["posts", "gone", "post"] ["posts", "gone"] (defScope sPW) := ⟨rfl, rfl, rfl, by decide +kernel, rfl, by decide +kernel, by decide +kernel⟩
abbrev sRP : Stmt := topS 48
theorem scRP : FnScope ["instance", "post", "groups", "posts", "count"] ["instance", "post"] (defScope sRP) := ⟨rfl, rfl, rfl, by decide +kernel, rfl, by decide +kernel, by decide +kernel⟩
abbrev siTM : Stmt := inCls (topS 15) 0
theorem sciTM : FnScope ["self", "limit"] ["self", "limit"] (defScope siTM) := ⟨rfl, rfl, rfl, by decide +kernel, rfl, by decide +kernel, by decide +kernel⟩
theorem ok_iTM {P : Program} {w : World} {K : PySem.W.Frag} {mg : Str → Option Value} {base : Heap} {f C : Addr} {fd : FuncData} (F : Fun K "__init__" "TooMany.__init__" siTM f fd) (X : XF K C f "limit") : FnOk P w K mg base CX0 1 f fd ["self", "limit"] (spI1 C "limit") := by
  refine F.ok sciTM (fun vs H Q E h => ?_) (fun cdv A outer s H vs Q E hr h => ?_)
  · obtain ⟨a, v, rfl, _⟩ := h; rfl
  · obtain ⟨a, v, rfl, hH, q⟩ := h
    refine ⟨_, pss_one (ps_ost (pv 0) (pv 1)), ?_⟩
    exact ⟨v, rfl, .ref a, rfl, a, C, rfl, X.T, X.no, .inl ⟨hH, fun dx nd ne => q dx nd ne⟩⟩
def appI (cs : List Int) (gs : List Gp) (d1 d2 : PyData) : List Int × List Gp := (cs, gs ++ [(lstD d1, numD d2)])
def spAG (K : PySem.W.Frag) (cBL cBN cTM : Addr) : Sp := fun vs H Q E => ∃ (st r i : Addr) (v1 v2 : V) (cs : List Int) (gs : List Gp) (d1 d2 : PyData), vs = [.ref i, v1, v2] ∧ Dp K H (.ref i) (dInst cs gs) ∧ InsOk cs gs ∧ Dq K st r H v1 d1 ∧ Dq K st r H v2 d2 ∧
  ∀ H', Same H H' → (listD cs.length d1 = false → ∀ d, H' d = none → E (.ref cBL) (some d) (upd H' d (.xd [("value", v1)]))) ∧
    (listD cs.length d1 = true → withinD 1 (10 ^ 12) d2 = false → ∀ d, H' d = none → E (.ref cBN) (some d) (upd H' d (.xd [("value", v2)]))) ∧
    (listD cs.length d1 = true → withinD 1 (10 ^ 12) d2 = true → 10 ≤ gs.length → ∀ d, H' d = none → E (.ref cTM) (some d) (upd H' d (.xd [("limit", .int 10)]))) ∧
    (listD cs.length d1 = true → withinD 1 (10 ^ 12) d2 = true → gs.length < 10 → ∀ p, Dp K H' (.ref p) (dInst cs (gs ++ [(lstD d1, numD d2)])) → Q (.ref p) H')
def spRG (K : PySem.W.Frag) (cNG cLO : Addr) : Sp := fun vs H Q E => ∃ (st r i : Addr) (v : V) (cs : List Int) (gs : List Gp) (d : PyData), vs = [.ref i, v] ∧ Dp K H (.ref i) (dInst cs gs) ∧ InsOk cs gs ∧ Dq K st r H v d ∧
  ∀ H', Same H H' → (ok1 1 cs gs d = false → ∀ dx, H' dx = none → E (.ref cNG) (some dx) (upd H' dx (.xd [("value", v)]))) ∧
    (ok1 1 cs gs d = true → gs.length = 1 → E (.ref cLO) none H') ∧
    (ok1 1 cs gs d = true → gs.length ≠ 1 → ∀ p, Dp K H' (.ref p) (dInst cs (gs.take (idx d) ++ gs.drop (idx d + 1))) → Q (.ref p) H')
def spAP (K : PySem.W.Frag) (cBN cTM : Addr) : Sp := fun vs H Q E => ∃ (st r i : Addr) (v : V) (cs : List Int) (gs : List Gp) (d : PyData), vs = [.ref i, v] ∧ Dp K H (.ref i) (dInst cs gs) ∧ InsOk cs gs ∧ Dq K st r H v d ∧
  ∀ H', Same H H' → (withinD 1 (10 ^ 12) d = false → ∀ dx, H' dx = none → E (.ref cBN) (some dx) (upd H' dx (.xd [("value", v)]))) ∧
    (withinD 1 (10 ^ 12) d = true → 6 ≤ cs.length → ∀ dx, H' dx = none → E (.ref cTM) (some dx) (upd H' dx (.xd [("limit", .int 6)]))) ∧
    (withinD 1 (10 ^ 12) d = true → cs.length < 6 → ∀ p, Dp K H' (.ref p) (dInst (cs ++ [numD d]) gs) → Q (.ref p) H')
/-- a list without a post -/
def woL (p : Int) (ps : List Int) : List Int := (ps.filter fun x => decide (x ≠ p)).map fun x => if p < x then x - 1 else x
def spPW (K : PySem.W.Frag) : Sp := fun vs H Q _ => ∃ (a : Addr) (p : Int) (ps : List Int), vs = [.ref a, .int p] ∧ SqT K H a (ps.map V.int) ∧ ps.length ≤ 1000 ∧ ∀ H' b, Same H H' → SqT K H' b ((woL p ps).map V.int) → Q (.ref b) H'
def spRP (K : PySem.W.Frag) (cNP cLO : Addr) : Sp := fun vs H Q E => ∃ (st r i : Addr) (v : V) (cs : List Int) (gs : List Gp) (d : PyData), vs = [.ref i, v] ∧ Dp K H (.ref i) (dInst cs gs) ∧ InsOk cs gs ∧ Dq K st r H v d ∧
  ∀ H', Same H H' → (ok1 0 cs gs d = false → ∀ dx, H' dx = none → E (.ref cNP) (some dx) (upd H' dx (.xd [("value", v)]))) ∧
    (ok1 0 cs gs d = true → cs.length = 1 → E (.ref cLO) none H') ∧
    (ok1 0 cs gs d = true → cs.length ≠ 1 → ∀ p, Dp K H' (.ref p) (dInst (cs.take (idx d) ++ cs.drop (idx d + 1)) (gs.map fun g => (woL (idx d : Nat) g.1, g.2))) → Q (.ref p) H')
theorem dpAll_app {K : PySem.W.Frag} {H : Hp} : ∀ {vs ws : List V} {ds es : List PyData}, DpAll K H vs ds → DpAll K H ws es → DpAll K H (vs ++ ws) (ds ++ es)
  | _, _, _, _, .nil, h => h
  | _, _, _, _, .cons a b, h => .cons a (dpAll_app b h)
theorem dpAll_take {K : PySem.W.Frag} {H : Hp} : ∀ {vs : List V} {ds : List PyData} (n : Nat), DpAll K H vs ds → DpAll K H (vs.take n) (ds.take n)
  | _, _, 0, _ => by rw [List.take_zero, List.take_zero]; exact .nil
  | _, _, n + 1, .nil => .nil
  | _, _, n + 1, .cons a b => .cons a (dpAll_take n b)
theorem dpAll_drop {K : PySem.W.Frag} {H : Hp} : ∀ {vs : List V} {ds : List PyData} (n : Nat), DpAll K H vs ds → DpAll K H (vs.drop n) (ds.drop n)
  | _, _, 0, h => h
  | _, _, n + 1, .nil => .nil
  | _, _, n + 1, .cons a b => dpAll_drop n b
theorem take_snocW {α : Type} {l : List α} {j : Nat} {x : α} (h : l[j]? = some x) : l.take (j + 1) = l.take j ++ [x] := by rw [List.take_add_one, h]; rfl
theorem to_wo (n : Nat) (l : List Gp) : tupOnlyAll (l.map fun g => dGrp (woL (n : Nat) g.1, g.2)) = true := by
  have : (l.map fun g => dGrp (woL (n : Nat) g.1, g.2)) = (l.map fun g => (woL (n : Nat) g.1, g.2)).map dGrp := by rw [List.map_map]; rfl
  rw [this]; exact to_grps _
section
variable {P : Program} {w : World} {K : PySem.W.Frag} {mg : Str → Option Value} {base : Heap}
set_option maxHeartbeats 16000000 in
theorem ok_AG {f fPL fWi : Addr} {fd fdPL fdWi : FuncData} (F : Fun K "with_group" "with_group" sAG f fd)
    (FPL : Fun K "is_post_list" "is_post_list" sPList fPL fdPL) (bPL : Binds K fdPL ["value", "post_count"] []) (gPL : mg "is_post_list" = some (.ref fPL)) (GPL : FnOk P w K mg base CX0 3 fPL fdPL ["value", "post_count"] (spPList K))
    (FWi : Fun K "is_within" "is_within" sWithin fWi fdWi) (bWi : Binds K fdWi ["value", "least", "most"] []) (gWi : mg "is_within" = some (.ref fWi)) (GWi : FnOk P w K mg base CX0 2 fWi fdWi ["value", "least", "most"] (spWithin K))
    {cBL : Addr} {fiBL : Addr} {fdiBL : FuncData} (gBL : mg "BadList" = some (.ref cBL)) (XBL : XF K cBL fiBL "value") (GiBL : FnOk P w K mg base CX0 1 fiBL fdiBL ["self", "value"] (spI1 cBL "value")) (biBL : Binds K fdiBL ["self", "value"] [])
    {cBN : Addr} {fiBN : Addr} {fdiBN : FuncData} (gBN : mg "BadNumber" = some (.ref cBN)) (XBN : XF K cBN fiBN "value") (GiBN : FnOk P w K mg base CX0 1 fiBN fdiBN ["self", "value"] (spI1 cBN "value")) (biBN : Binds K fdiBN ["self", "value"] [])
    {cTM : Addr} {fiTM : Addr} {fdiTM : FuncData} (gTM : mg "TooMany" = some (.ref cTM)) (XTM : XF K cTM fiTM "limit") (GiTM : FnOk P w K mg base CX0 1 fiTM fdiTM ["self", "limit"] (spI1 cTM "limit")) (biTM : Binds K fdiTM ["self", "limit"] [])
    {uBIG : Value} (vBIG : mg "BIG" = some uBIG) (rBIG : RelV (.int 1000000000000) uBIG)
    {uGROUPS : Value} (vGROUPS : mg "GROUPS" = some uGROUPS) (rGROUPS : RelV (.int 10) uGROUPS)
    (m_len : mg "len" = none) :
    FnOk P w K mg base (L2.CX P w) 4 f fd ["instance", "posts", "count"] (spAG K cBL cBN cTM) := by
  refine F.okX scAG (fun vs H Q E h => ?_) (fun cdv A outer s H vs Q E hr h => ?_)
  · obtain ⟨st, r, i, v1, v2, cs, gs, d1, d2, rfl, _⟩ := h; rfl
  · obtain ⟨st, r, i, v1, v2, cs, gs, d1, d2, rfl, hI, ok, h1, h2, q⟩ := h
    refine ⟨_, pss_cons (ps_if (pt_not (pt_val (pe_call GPL (hr.mono (by omega)) (by rfl) gPL FPL.kp bPL .nil pass0 (pa_cons (pv 1) (pa_cons (pe_callB call_lenQ (by rfl) m_len PySem.boot_len (pa_cons (pe_ix ix_tup (pv 0) (pe_int) (fun _ _ => rfl)) pa_nil)) pa_nil)))))
        (pss_one (ps_raise rfl (takes_of rfl rfl rfl rfl) (pmk_oex XBL.T XBL.iC XBL.tI GiBL (hr.mono (by omega)) biBL .nil pass0 (by rfl) gBL (pa_cons (pv 1) pa_nil)))) pss_nil)
      (pss_cons (ps_if (pt_not (pt_val (pe_call GWi (hr.mono (by omega)) (by rfl) gWi FWi.kp bWi .nil pass0 (pa_cons (pv 2) (pa_cons (pe_int) (pa_cons (pe_glob (by rfl) vBIG rBIG) pa_nil))))))
        (pss_one (ps_raise rfl (takes_of rfl rfl rfl rfl) (pmk_oex XBN.T XBN.iC XBN.tI GiBN (hr.mono (by omega)) biBN .nil pass0 (by rfl) gBN (pa_cons (pv 2) pa_nil)))) pss_nil)
      (pss_cons (ps_if (pt_cmpR op_ge (pe_callB call_lenQ (by rfl) m_len PySem.boot_len (pa_cons (pe_ix ix_tup (pv 0) (pe_int) (fun _ _ => rfl)) pa_nil)) (pe_glob (by rfl) vGROUPS rGROUPS) (nomark _))
        (pss_one (ps_raise rfl (takes_of rfl rfl rfl rfl) (pmk_oex XTM.T XTM.iC XTM.tI GiTM (hr.mono (by omega)) biTM .nil pass0 (by rfl) gTM (pa_cons (pe_glob (by rfl) vGROUPS rGROUPS) pa_nil)))) pss_nil)
      (pss_one (ps_ret (pe_tup (pa_cons (pe_ix ix_tup (pv 0) (pe_int) (fun _ _ => rfl)) (pa_cons (pe_op op_catA (pe_ix ix_tup (pv 0) (pe_int) (fun _ _ => rfl)) (pe_tup (pa_cons (pe_tup (pa_cons (pv 1) (pa_cons (pv 2) pa_nil))) pa_nil))) pa_nil))))))), ?_⟩
    obtain ⟨_, ca, ga, xs, e, hi, hc, hgt, hgs⟩ := inst_open hI
    cases e
    have lx := DpAll.len hgs
    rw [List.length_map] at lx
    have h6 := ok.c6
    have h10 := ok.g10
    refine ⟨v1, rfl, .ref i, rfl, i, _, 0, .ref ca, rfl, rfl, hi, atI_nat (j := 0) rfl, ca, _, rfl, .inr hc, st, r, v1, d1, _, rfl, h1, by omega, by rw [List.length_map]; omega, fun H1 s1 => ?_⟩
    rw [List.length_map]
    cases hb : listD cs.length d1 with
    | false => exact ⟨_, rfl, iteT ⟨v1, rfl, mkO1 fun d nd => (q H1 s1).1 hb d nd⟩⟩
    | true =>
    refine ⟨_, rfl, iteF ?_⟩
    refine ⟨v2, rfl, st, r, v2, d2, _, _, rfl, h2.lasts (.of s1), ?_⟩
    cases hb2 : withinD 1 1000000000000 d2 with
    | false => exact ⟨_, rfl, iteT ⟨v2, rfl, mkO1 fun d nd => (q H1 s1).2.1 hb hb2 d nd⟩⟩
    | true =>
    refine ⟨_, rfl, iteF ?_⟩
    have hi1 := (TupK.of s1).sq hi
    have hg1 := (TupK.of s1).sq hgt
    refine ⟨.ref i, rfl, i, _, 1, .ref ga, rfl, rfl, hi1, atI_nat (j := 1) rfl, ga, _, rfl, .inr hg1, _, _, rfl, rfl, _, rfl, ite2 (fun h3 => ?_) (fun h3 => ?_)⟩
    · have h3 := of_decide_eq_true h3
      exact mkO1 fun d nd => (q H1 s1).2.2.1 hb hb2 (by omega) d nd
    have h3 := of_decide_eq_false (Bool.eq_false_iff.mpr h3)
    obtain ⟨b, rfl, hb0, hb1⟩ := within_int hb2
    cases h2
    obtain ⟨row, ed, el⟩ := list_ints hb
    have h11 := h1.lasts (.of s1)
    rw [ed] at h11
    obtain ⟨lA, rfl, hL⟩ := dI_ref (Dq.to_dp (to_dI _) h11)
    refine ⟨.ref i, rfl, i, _, 0, .ref ca, rfl, rfl, hi1, atI_nat (j := 0) rfl, .ref i, rfl, i, _, 1, .ref ga, rfl, rfl, hi1, atI_nat (j := 1) rfl, .ref lA, rfl, .int b, rfl, (show (2 : Nat) ≤ sizeLine by decide), fun T nT => ⟨(show (1 : Nat) ≤ sizeLine by decide), fun U nU => ?_⟩⟩
    have sT := sameNew (o := .tup [.ref lA, .int b]) nT
    have sU := sameNew (o := .tup [.ref T]) nU
    have s3 := s1.trans (sT.trans sU)
    refine cat_eq ((TupK.of s3).sq hgt) (SqT.of upd_same) (Nat.le_of_lt (small (by rw [lx]; simp; omega))) (fun H2 p s2 hp => ⟨(show (2 : Nat) ≤ sizeLine by decide), fun R nR => ?_⟩)
    have sR := sameNew (o := .tup [.ref ca, .ref p]) nR
    have sA := s3.trans (s2.trans sR)
    refine (q _ sA).2.2.2 hb hb2 (by omega) R (.tup (SqT.of upd_same) (.cons (dI_sq ((TupK.of sA).sq hc)) (.cons (.tup ((TupK.of sR).sq hp) ?_) .nil)))
    show DpAll K _ _ ((gs ++ [(lstD d1, b)]).map dGrp)
    rw [List.map_append, el]
    exact dpAll_app ((TupK.of sA).dpAll _ _ (to_grps _) hgs) (.cons (.tup ((TupK.of (sU.trans (s2.trans sR))).sq (SqT.of upd_same)) (.cons (dI_sq ((TupK.of (sT.trans (sU.trans (s2.trans sR)))).sq hL)) (.cons (.int _) .nil))) .nil)
set_option maxHeartbeats 16000000 in
theorem ok_RG {f fIG : Addr} {fd fdIG : FuncData} (F : Fun K "without_group" "without_group" sRG f fd)
    (FIG : Fun K "is_group" "is_group" sIG fIG fdIG) (bIG : Binds K fdIG ["instance", "value"] []) (gIG : mg "is_group" = some (.ref fIG)) (GIG : FnOk P w K mg base CX0 3 fIG fdIG ["instance", "value"] (spIsP K 1))
    {cNG : Addr} {fiNG : Addr} {fdiNG : FuncData} (gNG : mg "NoGroup" = some (.ref cNG)) (XNG : XL K cNG fiNG "value") (GiNG : FnOk P w K mg base CX0 1 fiNG fdiNG ["self", "value"] (spI1 cNG "value")) (biNG : Binds K fdiNG ["self", "value"] [])
    {cLO : Addr} (gLO : mg "LastOne" = some (.ref cLO)) (ILO : IsC K cLO) (xLO : PySem.W.excIn K cLO VEbm "ValueError.__new__" = true)
    (m_len : mg "len" = none) :
    FnOk P w K mg base (L2.CX P w) 4 f fd ["instance", "group"] (spRG K cNG cLO) := by
  refine F.okX scRG (fun vs H Q E h => ?_) (fun cdv A outer s H vs Q E hr h => ?_)
  · obtain ⟨st, r, i, v, cs, gs, d, rfl, _⟩ := h; rfl
  · obtain ⟨st, r, i, v, cs, gs, d, rfl, hI, ok, h1, q⟩ := h
    refine ⟨_, pss_cons (ps_if (pt_not (pt_val (pe_call GIG (hr.mono (by omega)) (by rfl) gIG FIG.kp bIG .nil pass0 (pa_cons (pv 0) (pa_cons (pv 1) pa_nil)))))
        (pss_one (ps_raise rfl (takes_of rfl rfl rfl rfl) (pmk_le XNG.T XNG.iC XNG.tI GiNG (hr.mono (by omega)) biNG (by rfl) gNG (pa_cons (pv 1) pa_nil)))) pss_nil)
      (pss_cons (ps_if (pt_cmpR op_eq (pe_callB call_lenQ (by rfl) m_len PySem.boot_len (pa_cons (pe_ix ix_tup (pv 0) (pe_int) (fun _ _ => rfl)) pa_nil)) (pe_int) (nomark _))
        (pss_one (ps_raise rfl (takes_of rfl rfl rfl rfl) (pmk_own0 PySem.F.excBase_ValueError xLO gLO ILO.kp ILO.raises (by rfl)))) pss_nil)
      (pss_one (ps_ret (pe_tup (pa_cons (pe_ix ix_tup (pv 0) (pe_int) (fun _ _ => rfl)) (pa_cons (pe_op op_catA (pe_slice sl_tupA (pe_ix ix_tup (pv 0) (pe_int) (fun _ _ => rfl)) po_none (po_some (pv 1))) (pe_slice sl_tupA (pe_ix ix_tup (pv 0) (pe_int) (fun _ _ => rfl)) (po_some (pe_op op_add (pv 1) (pe_int))) po_none)) pa_nil)))))), ?_⟩
    obtain ⟨_, ca, ga, xs, e, hi, hc, hgt, hgs⟩ := inst_open hI
    cases e
    have lx := DpAll.len hgs
    rw [List.length_map] at lx
    have h6 := ok.c6
    have h10 := ok.g10
    refine ⟨.ref i, rfl, v, rfl, st, r, i, v, cs, gs, d, rfl, hI, h1, ?_⟩
    have e1 : withinD 0 (bnd 1 cs gs) d = ok1 1 cs gs d := rfl
    cases hb : ok1 1 cs gs d with
    | false =>
      rw [e1, hb]
      exact ⟨_, rfl, iteT ⟨v, rfl, mkO1 fun d nd => (q H (Same.refl _)).1 hb d nd⟩⟩
    | true =>
    rw [e1, hb]
    refine ⟨_, rfl, iteF ?_⟩
    obtain ⟨a, rfl, ha0, ha1⟩ := within_int hb
    cases h1
    obtain ⟨n, rfl⟩ : ∃ n : Nat, a = n := ⟨a.toNat, by omega⟩
    have hn : n < gs.length := by have := ha1; unfold bnd at this; simp at this; omega
    refine ⟨.ref i, rfl, i, _, 1, .ref ga, rfl, rfl, hi, atI_nat (j := 1) rfl, ga, _, rfl, .inr hgt, rfl, _, rfl, ite2 (fun h3 => ?_) (fun h3 => ?_)⟩
    · have h3 := V.int.inj (of_decide_eq_true h3)
      exact (q H (Same.refl _)).2.1 hb (by omega)
    have h3 : gs.length ≠ 1 := fun z => h3 (decide_eq_true (by rw [lx, z]; rfl))
    refine ⟨.ref i, rfl, i, _, 0, .ref ca, rfl, rfl, hi, atI_nat (j := 0) rfl, .ref i, rfl, i, _, 1, .ref ga, rfl, rfl, hi, atI_nat (j := 1) rfl, .int (n : Nat), rfl, _, rfl, take_eq hgt n fun H1 b1 s1 hb1 => ?_⟩
    refine ⟨.ref i, rfl, i, _, 1, .ref ga, rfl, rfl, (TupK.of s1).sq hi, atI_nat (j := 1) rfl, .int (n : Nat), rfl, _, _, rfl, rfl, _, rfl, ?_⟩
    dsimp only [tNoPart]
    rw [show ((n : Int) + 1) = ((n + 1 : Nat) : Int) by omega]
    refine drop_eq ((TupK.of s1).sq hgt) (n + 1) fun H2 b2 s2 hb2 => ?_
    refine cat_eq ((TupK.of s2).sq hb1) hb2 (Nat.le_of_lt (small (by rw [List.length_take, List.length_drop]; omega))) fun H3 b3 s3 hb3 => ⟨(show (2 : Nat) ≤ sizeLine by decide), fun R nR => ?_⟩
    have sR := sameNew (o := .tup [.ref ca, .ref b3]) nR
    have sA := s1.trans (s2.trans (s3.trans sR))
    refine (q _ sA).2.2 hb h3 R (.tup (SqT.of upd_same) (.cons (dI_sq ((TupK.of sA).sq hc)) (.cons (.tup ((TupK.of sR).sq hb3) ?_) .nil)))
    show DpAll K _ _ ((gs.take n ++ gs.drop (n + 1)).map dGrp)
    rw [List.map_append, List.map_take, List.map_drop]
    have hg := (TupK.of sA).dpAll _ _ (to_grps _) hgs
    exact dpAll_app (dpAll_take n hg) (dpAll_drop (n + 1) hg)
set_option maxHeartbeats 16000000 in
theorem ok_AP {f fWi : Addr} {fd fdWi : FuncData} (F : Fun K "with_post" "with_post" sAP f fd)
    (FWi : Fun K "is_within" "is_within" sWithin fWi fdWi) (bWi : Binds K fdWi ["value", "least", "most"] []) (gWi : mg "is_within" = some (.ref fWi)) (GWi : FnOk P w K mg base CX0 2 fWi fdWi ["value", "least", "most"] (spWithin K))
    {cBN : Addr} {fiBN : Addr} {fdiBN : FuncData} (gBN : mg "BadNumber" = some (.ref cBN)) (XBN : XF K cBN fiBN "value") (GiBN : FnOk P w K mg base CX0 1 fiBN fdiBN ["self", "value"] (spI1 cBN "value")) (biBN : Binds K fdiBN ["self", "value"] [])
    {cTM : Addr} {fiTM : Addr} {fdiTM : FuncData} (gTM : mg "TooMany" = some (.ref cTM)) (XTM : XF K cTM fiTM "limit") (GiTM : FnOk P w K mg base CX0 1 fiTM fdiTM ["self", "limit"] (spI1 cTM "limit")) (biTM : Binds K fdiTM ["self", "limit"] [])
    {uBIG : Value} (vBIG : mg "BIG" = some uBIG) (rBIG : RelV (.int 1000000000000) uBIG)
    {uPOSTS : Value} (vPOSTS : mg "POSTS" = some uPOSTS) (rPOSTS : RelV (.int 6) uPOSTS)
    (m_len : mg "len" = none) :
    FnOk P w K mg base (L2.CX P w) 4 f fd ["instance", "capacity"] (spAP K cBN cTM) := by
  refine F.okX scAP (fun vs H Q E h => ?_) (fun cdv A outer s H vs Q E hr h => ?_)
  · obtain ⟨st, r, i, v, cs, gs, d, rfl, _⟩ := h; rfl
  · obtain ⟨st, r, i, v, cs, gs, d, rfl, hI, ok, h1, q⟩ := h
    refine ⟨_, pss_cons (ps_if (pt_not (pt_val (pe_call GWi (hr.mono (by omega)) (by rfl) gWi FWi.kp bWi .nil pass0 (pa_cons (pv 1) (pa_cons (pe_int) (pa_cons (pe_glob (by rfl) vBIG rBIG) pa_nil))))))
        (pss_one (ps_raise rfl (takes_of rfl rfl rfl rfl) (pmk_oex XBN.T XBN.iC XBN.tI GiBN (hr.mono (by omega)) biBN .nil pass0 (by rfl) gBN (pa_cons (pv 1) pa_nil)))) pss_nil)
      (pss_cons (ps_if (pt_cmpR op_ge (pe_callB call_lenQ (by rfl) m_len PySem.boot_len (pa_cons (pe_ix ix_tup (pv 0) (pe_int) (fun _ _ => rfl)) pa_nil)) (pe_glob (by rfl) vPOSTS rPOSTS) (nomark _))
        (pss_one (ps_raise rfl (takes_of rfl rfl rfl rfl) (pmk_oex XTM.T XTM.iC XTM.tI GiTM (hr.mono (by omega)) biTM .nil pass0 (by rfl) gTM (pa_cons (pe_glob (by rfl) vPOSTS rPOSTS) pa_nil)))) pss_nil)
      (pss_one (ps_ret (pe_tup (pa_cons (pe_op op_catA (pe_ix ix_tup (pv 0) (pe_int) (fun _ _ => rfl)) (pe_tup (pa_cons (pv 1) pa_nil))) (pa_cons (pe_ix ix_tup (pv 0) (pe_int) (fun _ _ => rfl)) pa_nil)))))), ?_⟩
    obtain ⟨_, ca, ga, xs, e, hi, hc, hgt, hgs⟩ := inst_open hI
    cases e
    have lx := DpAll.len hgs
    rw [List.length_map] at lx
    have h6 := ok.c6
    have h10 := ok.g10
    refine ⟨v, rfl, st, r, v, d, _, _, rfl, h1, ?_⟩
    cases hb2 : withinD 1 1000000000000 d with
    | false => exact ⟨_, rfl, iteT ⟨v, rfl, mkO1 fun d nd => (q H (Same.refl _)).1 hb2 d nd⟩⟩
    | true =>
    refine ⟨_, rfl, iteF ?_⟩
    obtain ⟨b, rfl, hb0, hb1⟩ := within_int hb2
    cases h1
    refine ⟨.ref i, rfl, i, _, 0, .ref ca, rfl, rfl, hi, atI_nat (j := 0) rfl, ca, _, rfl, .inr hc, _, _, rfl, rfl, _, rfl, ite2 (fun h3 => ?_) (fun h3 => ?_)⟩
    · have h3 := of_decide_eq_true h3
      rw [List.length_map] at h3
      exact mkO1 fun d nd => (q H (Same.refl _)).2.1 hb2 (by omega) d nd
    have h3 := of_decide_eq_false (Bool.eq_false_iff.mpr h3)
    rw [List.length_map] at h3
    refine ⟨.ref i, rfl, i, _, 0, .ref ca, rfl, rfl, hi, atI_nat (j := 0) rfl, .int b, rfl, (show (1 : Nat) ≤ sizeLine by decide), fun U nU => ?_⟩
    have sU := sameNew (o := .tup [.int b]) nU
    refine cat_eq ((TupK.of sU).sq hc) (SqT.of upd_same) (Nat.le_of_lt (small (by rw [List.length_map]; simp; omega))) (fun H2 p s2 hp => ⟨.ref i, rfl, i, _, 1, .ref ga, rfl, rfl, (TupK.of (sU.trans s2)).sq hi, atI_nat (j := 1) rfl, (show (2 : Nat) ≤ sizeLine by decide), fun R nR => ?_⟩)
    have sR := sameNew (o := .tup [.ref p, .ref ga]) nR
    have sA := sU.trans (s2.trans sR)
    refine (q _ sA).2.2 hb2 (by omega) R (.tup (SqT.of upd_same) (.cons (dI_sq (K := K) (ns := cs ++ [b]) ?_) (.cons (.tup ((TupK.of sA).sq hgt) ((TupK.of sA).dpAll _ _ (to_grps _) hgs)) .nil)))
    rw [List.map_append]
    exact (TupK.of sR).sq hp
set_option maxHeartbeats 16000000 in
theorem ok_PW {f : Addr} {fd : FuncData} (F : Fun K "posts_without" "posts_without" sPW f fd)
    (m_tuple : mg "tuple" = none) :
    FnOk P w K mg base CX0 1 f fd ["posts", "gone"] (spPW K) := by
  refine F.ok scPW (fun vs H Q E h => ?_) (fun cdv A outer s H vs Q E hr h => ?_)
  · obtain ⟨a, p, ps, rfl, _⟩ := h; rfl
  · obtain ⟨a, p, ps, rfl, hA, hl, q⟩ := h
    refine ⟨_, pss_one (ps_ret (pe_callTy call_tupQ (by rfl) m_tuple (by decide +kernel) (pa_cons (pe_lc (own := [("post", 2)]) (g := gName 2) (tt := tTest (tOp rNe (tVar 2) (tVar 1))) (te := tIf (tTest (tOp (rI0 fun i j => .bl (decide (j < i))) (tVar 2) (tVar 1))) (tOp (rI0 fun i j => .int (i - j)) (tVar 2) (tC (.int 1))) (tVar 2)) rfl scPW.nd (pi_tup (pv 0)) (blkOk_by (N := ["posts", "gone", "post"]) (sc := defScope sPW) (by decide +kernel)) (fun _ _ _ _ _ => pg_name (i := 2) scPW.nd rfl (.inl rfl)) (fun _ _ _ _ _ => pts_one (pt_cmpR op_ne (pv 2) (pv 1) (nomark _))) (fun _ _ _ _ _ => pe_ifExp (pt_cmpR op_gt (pv 2) (pv 1) (nomark _)) (pe_op op_sub (pv 2) (pe_int)) (pv 2))) pa_nil))), ?_⟩
    refine ⟨.ref a, rfl, a, rfl, ⟨_, hA⟩, fun D nD => lc_it (walk_tup (K := K) (a := a) (xs := ps.map V.int))
      (fun k H1 => Same H H1 ∧ H1 D = some (.lst ((woL p (ps.take k)).map V.int))) ⟨sameNew nD, upd_same⟩ (fun k H1 _ h => (TupK.of h.1).sq hA) ?_ ?_⟩
    · rintro k w H1 H2 hk ⟨s1, e1⟩ ⟨rfl, hw⟩
      have hw : (ps.map V.int)[k]? = some w := hw
      rw [List.getElem?_map] at hw
      obtain ⟨x, hx, rfl⟩ := Option.map_eq_some_iff.mp hw
      have lw : (woL p (ps.take k)).length ≤ 1000 := by
        unfold woL
        have := List.length_filter_le (fun x => decide (x ≠ p)) (ps.take k)
        rw [List.length_map]
        rw [List.length_take] at this; omega
      have st : woL p (ps.take (k + 1)) = woL p (ps.take k) ++ if x = p then [] else [if p < x then x - 1 else x] := by
        unfold woL
        rw [take_snocW hx, List.filter_append, List.map_append]
        by_cases c : x = p
        · rw [if_pos c, List.filter_cons, if_neg (by simp [c])]; rfl
        · rw [if_neg c, List.filter_cons, if_pos (by simp [c])]; rfl
      refine ⟨rfl, .int x, rfl, .int p, rfl, rfl, _, rfl, ite2 (fun h1 => ?_) (fun h1 => ?_)⟩
      · have hne : x ≠ p := fun z => by rw [z] at h1; simp at h1
        rw [if_neg hne] at st
        refine ⟨.int x, rfl, .int p, rfl, _, _, rfl, rfl, _, rfl, ite2 (fun h2 => ?_) (fun h2 => ?_)⟩
        · rw [if_pos (of_decide_eq_true h2)] at st
          exact ⟨.int x, rfl, _, _, rfl, rfl, _, e1, by rw [List.length_map]; exact small (by omega), samePut s1 nD, by rw [upd_same, st, List.map_append]; rfl⟩
        · rw [if_neg (of_decide_eq_false (Bool.eq_false_iff.mpr h2))] at st
          exact ⟨.int x, rfl, _, e1, by rw [List.length_map]; exact small (by omega), samePut s1 nD, by rw [upd_same, st, List.map_append]; rfl⟩
      · have he : x = p := by
          by_cases c : x = p
          · exact c
          · exact absurd (by simp [c]) h1
        rw [if_pos he, List.append_nil] at st
        exact ⟨s1, by rw [st]; exact e1⟩
    rintro H1 ⟨s1, e1⟩
    rw [List.length_map, List.take_length] at e1
    exact ⟨D, _, rfl, .inl ⟨SqL.of e1, fun T nT => q _ T (s1.trans (sameNew nT)) (SqT.of upd_same)⟩⟩
set_option maxHeartbeats 16000000 in
theorem ok_RP {f fIP fPW : Addr} {fd fdIP fdPW : FuncData} (F : Fun K "without_post" "without_post" sRP f fd)
    (FIP : Fun K "is_post" "is_post" sIP fIP fdIP) (bIP : Binds K fdIP ["instance", "value"] []) (gIP : mg "is_post" = some (.ref fIP)) (GIP : FnOk P w K mg base CX0 3 fIP fdIP ["instance", "value"] (spIsP K 0))
    (FPW : Fun K "posts_without" "posts_without" sPW fPW fdPW) (bPW : Binds K fdPW ["posts", "gone"] []) (gPW : mg "posts_without" = some (.ref fPW)) (GPW : FnOk P w K mg base CX0 1 fPW fdPW ["posts", "gone"] (spPW K))
    {cNP : Addr} {fiNP : Addr} {fdiNP : FuncData} (gNP : mg "NoPost" = some (.ref cNP)) (XNP : XL K cNP fiNP "value") (GiNP : FnOk P w K mg base CX0 1 fiNP fdiNP ["self", "value"] (spI1 cNP "value")) (biNP : Binds K fdiNP ["self", "value"] [])
    {cLO : Addr} (gLO : mg "LastOne" = some (.ref cLO)) (ILO : IsC K cLO) (xLO : PySem.W.excIn K cLO VEbm "ValueError.__new__" = true)
    (m_len : mg "len" = none) (m_tuple : mg "tuple" = none) :
    FnOk P w K mg base (L2.CX P w) 4 f fd ["instance", "post"] (spRP K cNP cLO) := by
  refine F.okX scRP (fun vs H Q E h => ?_) (fun cdv A outer s H vs Q E hr h => ?_)
  · obtain ⟨st, r, i, v, cs, gs, d, rfl, _⟩ := h; rfl
  · obtain ⟨st, r, i, v, cs, gs, d, rfl, hI, ok, h1, q⟩ := h
    refine ⟨_, pss_cons (ps_if (pt_not (pt_val (pe_call GIP (hr.mono (by omega)) (by rfl) gIP FIP.kp bIP .nil pass0 (pa_cons (pv 0) (pa_cons (pv 1) pa_nil)))))
        (pss_one (ps_raise rfl (takes_of rfl rfl rfl rfl) (pmk_le XNP.T XNP.iC XNP.tI GiNP (hr.mono (by omega)) biNP (by rfl) gNP (pa_cons (pv 1) pa_nil)))) pss_nil)
      (pss_cons (ps_if (pt_cmpR op_eq (pe_callB call_lenQ (by rfl) m_len PySem.boot_len (pa_cons (pe_ix ix_tup (pv 0) (pe_int) (fun _ _ => rfl)) pa_nil)) (pe_int) (nomark _))
        (pss_one (ps_raise rfl (takes_of rfl rfl rfl rfl) (pmk_own0 PySem.F.excBase_ValueError xLO gLO ILO.kp ILO.raises (by rfl)))) pss_nil)
      (pss_cons (ps_setLc (i := 2) (own := [("posts", 3), ("count", 4)]) (g := gTup K 2 (gCons (gName 3) (gCons (gName 4) gNil))) (tt := tYes) (te := tTup (tCons (tCall (spPW K) [] E0 (tCons (tVar 3) (tCons (tVar 1) tNil))) (tCons (tVar 4) tNil))) rfl scRP.nd rfl rfl (sw_true rfl rfl rfl (by decide +kernel)) (pi_tup (pe_ix ix_tup (pv 0) (pe_int) (fun _ _ => rfl))) (blkOk_by (N := ["instance", "post", "groups", "posts", "count"]) (sc := defScope sRP) (by decide +kernel)) (fun _ _ _ _ _ => pg_tup rfl (pgs_cons (pg_name (i := 3) scRP.nd rfl (.inl rfl)) (pgs_cons (pg_name (i := 4) scRP.nd rfl (.inl rfl)) pgs_nil))) (fun _ _ _ _ _ => pts_nil) (fun _ _ _ _ _ => pe_tup (pa_cons (pe_call GPW (hr.mono (by omega)) (by rfl) gPW FPW.kp bPW .nil pass0 (pa_cons (pv 3) (pa_cons (pv 1) pa_nil))) (pa_cons (pv 4) pa_nil))))
      (pss_one (ps_ret (pe_tup (pa_cons (pe_op op_catA (pe_slice sl_tupA (pe_ix ix_tup (pv 0) (pe_int) (fun _ _ => rfl)) po_none (po_some (pv 1))) (pe_slice sl_tupA (pe_ix ix_tup (pv 0) (pe_int) (fun _ _ => rfl)) (po_some (pe_op op_add (pv 1) (pe_int))) po_none)) (pa_cons (pe_callTy call_tupQ (by rfl) m_tuple (by decide +kernel) (pa_cons (pv 2) pa_nil)) pa_nil))))))), ?_⟩
    obtain ⟨_, ca, ga, xs, e, hi, hc, hgt, hgs⟩ := inst_open hI
    cases e
    have lx := DpAll.len hgs
    rw [List.length_map] at lx
    have h6 := ok.c6
    have h10 := ok.g10
    refine ⟨.ref i, rfl, v, rfl, st, r, i, v, cs, gs, d, rfl, hI, h1, ?_⟩
    have e1 : withinD 0 (bnd 0 cs gs) d = ok1 0 cs gs d := rfl
    cases hb : ok1 0 cs gs d with
    | false =>
      rw [e1, hb]
      exact ⟨_, rfl, iteT ⟨v, rfl, mkO1 fun d nd => (q H (Same.refl _)).1 hb d nd⟩⟩
    | true =>
    rw [e1, hb]
    refine ⟨_, rfl, iteF ?_⟩
    obtain ⟨a, rfl, ha0, ha1⟩ := within_int hb
    cases h1
    obtain ⟨n, rfl⟩ : ∃ n : Nat, a = n := ⟨a.toNat, by omega⟩
    have hn : n < cs.length := by have := ha1; unfold bnd at this; simp at this; omega
    refine ⟨.ref i, rfl, i, _, 0, .ref ca, rfl, rfl, hi, atI_nat (j := 0) rfl, ca, _, rfl, .inr hc, rfl, _, rfl, ite2 (fun h3 => ?_) (fun h3 => ?_)⟩
    · have h3 := V.int.inj (of_decide_eq_true h3)
      rw [List.length_map] at h3
      exact (q H (Same.refl _)).2.1 hb (by omega)
    have h3 : cs.length ≠ 1 := fun z => h3 (decide_eq_true (by rw [List.length_map, z]; rfl))
    refine ⟨.ref i, rfl, i, _, 1, .ref ga, rfl, rfl, hi, atI_nat (j := 1) rfl, ga, rfl, ⟨_, hgt⟩, fun D nD => lc_it (walk_tup (K := K) (a := ga) (xs := xs))
      (fun k H1 => Same H H1 ∧ ∃ zs, H1 D = some (.lst zs) ∧ zs.length = k ∧ DpAll K H1 zs ((gs.take k).map fun g => dGrp (woL (n : Nat) g.1, g.2))) ⟨sameNew nD, [], upd_same, rfl, .nil⟩ (fun k H1 _ h => (TupK.of h.1).sq hgt) ?_ ?_⟩
    · rintro k w H1 H2 hk ⟨s1, zs, e1, lz, rz⟩ ⟨rfl, hw⟩
      have hkg : k < gs.length := by omega
      have hg := List.getElem?_eq_getElem hkg
      obtain ⟨gA, pA, hx, hG, hP⟩ := grp_at hgs hg
      rw [hx] at hw
      cases hw
      have gb := ok.gp gs[k] (List.getElem_mem hkg)
      have tk := TupK.of s1
      refine ⟨gA, _, rfl, tk.sq hG, rfl, _, _, rfl, _, _, rfl, rfl, rfl, .ref pA, rfl, .int (n : Nat), rfl, pA, (n : Nat), gs[k].1, rfl, tk.sq hP, by omega, fun H3 b s3 hb3 => ⟨.int gs[k].2, rfl, (show (2 : Nat) ≤ sizeLine by decide), fun T nT => ?_⟩⟩
      have sT := sameNew (o := .tup [.ref b, .int gs[k].2]) nT
      have e3 := (s3.trans sT) _ _ e1
      refine ⟨zs, e3, by rw [lz]; exact small (by omega), samePut (s1.trans (s3.trans sT)) nD, _, upd_same, by simp [lz], ?_⟩
      rw [take_snocW hg, List.map_append]
      have tp : TupK _ (upd _ D (.lst (zs ++ [V.ref T]))) := TupK.put e3
      exact dpAll_app (((TupK.of (s3.trans sT)).trans tp).dpAll _ _ (to_wo n _) rz) (.cons (.tup (tp.sq (SqT.of upd_same)) (.cons (dI_sq (((TupK.of sT).trans tp).sq hb3)) (.cons (.int _) .nil))) .nil)
    rintro H1 ⟨s1, zs, e1, lz, rz⟩
    rw [lx, List.take_length] at rz
    have hc1 := (TupK.of s1).sq hc
    have hi1 := (TupK.of s1).sq hi
    refine ⟨.ref i, rfl, i, _, 0, .ref ca, rfl, rfl, hi1, atI_nat (j := 0) rfl, .int (n : Nat), rfl, _, rfl, take_eq hc1 n fun H2 b1 s2 hb1 => ?_⟩
    refine ⟨.ref i, rfl, i, _, 0, .ref ca, rfl, rfl, (TupK.of s2).sq hi1, atI_nat (j := 0) rfl, .int (n : Nat), rfl, _, _, rfl, rfl, _, rfl, ?_⟩
    dsimp only [tNoPart]
    rw [show ((n : Int) + 1) = ((n + 1 : Nat) : Int) by omega]
    refine drop_eq ((TupK.of s2).sq hc1) (n + 1) fun H3 b2 s3 hb2 => ?_
    refine cat_eq ((TupK.of s3).sq hb1) hb2 (Nat.le_of_lt (small (by rw [List.length_take, List.length_drop, List.length_map]; omega))) fun H4 b3 s4 hb3 => ?_
    have s14 := s2.trans (s3.trans s4)
    refine ⟨.ref D, rfl, D, _, rfl, .inl ⟨SqL.of (s14 _ _ e1), fun T nT => ⟨(show (2 : Nat) ≤ sizeLine by decide), fun R nR => ?_⟩⟩⟩
    have sT := sameNew (o := .tup zs) nT
    have sR := sameNew (o := .tup [.ref b3, .ref T]) nR
    refine (q _ (s1.trans (s14.trans (sT.trans sR)))).2.2 hb h3 R (.tup (SqT.of upd_same) (.cons (dI_sq (ns := cs.take n ++ cs.drop (n + 1)) ?_) (.cons (.tup ((TupK.of sR).sq (SqT.of upd_same)) ?_) .nil)))
    · rw [List.map_append, List.map_take, List.map_drop]
      exact (TupK.of (sT.trans sR)).sq hb3
    · show DpAll K _ _ ((gs.map fun g => (woL (n : Nat) g.1, g.2)).map dGrp)
      rw [List.map_map]
      exact (TupK.of (s14.trans (sT.trans sR))).dpAll _ _ (to_wo n _) rz
end
end Pv
namespace Pv
open PySem PySem.Spec PyProof.Rows L2
/-! calls with keywords, where an error may come out -/
def tCallNS (n m : Nat) (sp : Sp) (gV : List V → List V → List V) (E : L2.St → XK) (t tk : TA) : TE := fun σ H Q => t σ H fun vs H1 => tk σ H1 fun zs H2 => vs.length = n ∧ zs.length = m ∧ sp (gV vs zs) H2 Q (E σ)
section
variable {X : Cx} {CX : CXT} {k n : Nat} {f : Addr} {fd : FuncData} {ps ks : List Str} {sp : Sp} {E : L2.St → XK} {x : Str} {p pos : Pos} {e : Expr} {es : List Expr} {kws : List Keyword} {t tk : TA} {g : List Value → List Value → List Value} {gV : List V → List V → List V}
end
end Pv
namespace Pv
open PySem PySem.Spec PyProof.Rows L2
/-! own classes: len(o), str(o), o == p; methods that raise, methods with keyword-only defaults; except with a tuple of classes -/
section
variable {X : Cx} {CX : CXT} {n k : Nat} {f C : Addr} {fd : FuncData} {ps ks : List Str} {sp : Sp} {E : XK} {ES : L2.St → XK}
/-- len(o) -/
def rLenOwn (C : Addr) (sp : Sp) (E : XK) : List V → Hp → VK → Prop := fun xs H Q => ∃ a dx fs, xs = [V.ref a] ∧ H a = some (.ins C dx fs) ∧ sp [.ref a] H (fun z H' => ∃ i : Int, z = .int i ∧ 0 ≤ i ∧ i < 2 ^ 63 ∧ Q z H') E
theorem call_lenOwn (hs : PySem.W.findIn X.K (.ref C) "__len__" = some (some (.ref f))) (hf : PySem.W.isFn X.K (.ref f) = true) (F : FnOk X.prog X.w X.K X.mg X.base CX n f fd ps sp) (hb : Binds X.K fd ps []) (hr : Room (n + 1) X.A) (hx : Passes CX X E) : CallR X (.builtin "len") (rLenOwn C sp E) := by
  intro pins s σ H xs us Q I r h
  obtain ⟨a, dx, fs, rfl, ha, q⟩ := h
  obtain ⟨u, rfl, ru⟩ := r.one
  cases (show u = Value.ref a from ru)
  obtain ⟨mA, J, _⟩ := ins_get I.hok ha
  obtain ⟨od, J, _⟩ := J.look
  obtain ⟨m, hF⟩ := I.fr
  have hl := F.len _ _ _ _ q
  have r2 : Vals [V.ref a] [Value.ref a] := .cons rfl .nil
  refine PySem.W.len_K hF I.ok.mod.kin J hs hf (wpAny_call (codeAny_mono (F.run X.A.in1 X.stack s H ⟨[.ref a], []⟩ [.ref a] [.ref a] _ E hr.in1 I.env0.in1 (by
    have := hb s [.ref a] I.kIn (by simpa using hl)
    simpa using this) r2 q) fun r s' hq => ?_))
  cases r with
  | error e => exact hx pins σ H s e s' I hq
  | ok fl =>
    cases fl with
    | ret w =>
      obtain ⟨z', H', I', rz, i, ei, h0, h1, qz⟩ := I.after hq
      subst ei
      obtain ⟨t, e⟩ := (show ∃ t, w = Value.int i t from rz)
      cases e
      exact ⟨⟨h0, h1⟩, ⟨.int i, H', I'.tok _, ⟨_, rfl⟩, qz⟩⟩
    | next => exact False.elim hq
    | brk => exact False.elim hq
    | cont => exact False.elim hq
/-- str(o) -/
def rStrOwn (C : Addr) (sp : Sp) (E : XK) : List V → Hp → VK → Prop := fun xs H Q => ∃ a dx fs, xs = [V.ref a] ∧ H a = some (.ins C dx fs) ∧ sp [.ref a] H (fun z H' => ∃ t, z = .str t ∧ Q z H') E
theorem call_strOwn (hs : PySem.W.findIn X.K (.ref C) "__str__" = some (some (.ref f))) (hf : PySem.W.isFn X.K (.ref f) = true) (F : FnOk X.prog X.w X.K X.mg X.base CX n f fd ps sp) (hb : Binds X.K fd ps []) (hr : Room (n + 2) X.A) (hx : Passes CX X E) : CallR X (.type "str") (rStrOwn C sp E) := by
  intro pins s σ H xs us Q I r h
  obtain ⟨a, dx, fs, rfl, ha, q⟩ := h
  obtain ⟨u, rfl, ru⟩ := r.one
  cases (show u = Value.ref a from ru)
  obtain ⟨mA, J, _⟩ := ins_get I.hok ha
  obtain ⟨od, J, _⟩ := J.look
  have hl := F.len _ _ _ _ q
  have r2 : Vals [V.ref a] [Value.ref a] := .cons rfl .nil
  have hr2 : Room n X.A.in1.in1 := (show Room (n + 1) X.A.in1 from Room.in1 hr).in1
  refine PySem.W.kso_call hr2.units0 I.kIn J hs hf (wpAny_call (codeAny_mono (F.run X.A.in1.in1 X.stack s H ⟨[.ref a], []⟩ [.ref a] [.ref a] _ E hr2 I.env0.in1.in1 (by
    have := hb s [.ref a] I.kIn (by simpa using hl)
    simpa using this) r2 q) fun r s' hq => ?_))
  cases r with
  | error e => exact hx pins σ H s e s' I hq
  | ok fl =>
    cases fl with
    | ret w =>
      obtain ⟨z', H', I', rz, t, ei, qz⟩ := I.after hq
      subst ei
      obtain ⟨u, e⟩ := (show ∃ u, w = Value.str t u from rz)
      cases e
      exact ⟨.str t, H', I', ⟨_, rfl⟩, qz⟩
    | next => exact False.elim hq
    | brk => exact False.elim hq
    | cont => exact False.elim hq
/-- o == p -/
def rEqOwn (C : Addr) (sp : Sp) (E : XK) : R2 := fun x y H Q => ∃ a dx fs b dy gs, x = .ref a ∧ y = .ref b ∧ H a = some (.ins C dx fs) ∧ H b = some (.ins C dy gs) ∧ sp [x, y] H Q E
end
end Pv
namespace Pv
open PySem PySem.Spec PyProof.Rows L2
/-! except with a tuple of three classes -/
theorem fly_more {B : Heap} {l : List Env} {a : Addr} {Z : Obj → Prop} {h g : Heap} (f : HandSPX.FlyingZ B l a Z h) (k : ∀ b o, h.get? b = some o → g.get? b = some o) : HandSPX.FlyingZ B l a Z g := by
  obtain ⟨x1, x2, x3, oe, vs, T, oT, ts, y1, y2, y3, y4, y5, y6, y7, y8, y9⟩ := f
  exact ⟨fun b o q => k b o (x1 b o q), x2, x3.of_keeps fun b o q _ => ⟨o, k b o q, rfl⟩, oe, vs, T, oT, ts, k _ _ y1, y2, y3, y4, y5, y6, k _ _ y7, y8, y9⟩
def wTup (K : PySem.W.Frag) (cs : List Value) (ts : Addr → Value → Option Addr → TS) (Wo : WX) (D : Ends) : WX := fun cls d σ H =>
  ∃ b, PySem.W.exmAny K cls cs = some b ∧ (b = true → ∀ a, H a = none → ts a cls d D σ H) ∧ (b = false → Wo cls d σ H)
section
variable {X : Cx} {x1 x2 x3 : Str} {c1 c2 c3 : Value} {body su : List Stmt} {s₀ : Stmt} {p1 p2 p3 pt ph po : Pos} {kk : Nat} {tb : WX → TS} {ts : Addr → Value → Option Addr → TS} {Wo : WX}
end
end Pv
namespace Pv
open PySem PySem.Spec PyProof.Rows L2
/-! methods where an error may come out; methods with keyword-only defaults -/
def tMethW (C : Addr) (m : Str) (sp : Sp) (E : L2.St → XK) (ta : TE) (t : TA) : TE := fun σ H Q => ta σ H fun x H1 => ∃ a dx fs, x = .ref a ∧ H1 a = some (.ins C dx fs) ∧ fs.lookup m = none ∧ t σ H1 fun vs H2 => sp (x :: vs) H2 Q (E σ)
/-- n: how many values, self among them; m keywords -/
def tMethN (C : Addr) (mn : Str) (n m : Nat) (sp : Sp) (gV : List V → List V → List V) (E : L2.St → XK) (ta : TE) (t tk : TA) : TE := fun σ H Q => ta σ H fun x H1 => ∃ a dx fs, x = .ref a ∧ H1 a = some (.ins C dx fs) ∧ fs.lookup mn = none ∧ t σ H1 fun vs H2 => tk σ H2 fun zs H3 => vs.length + 1 = n ∧ zs.length = m ∧ sp (gV (x :: vs) zs) H3 Q (E σ)
section
variable {X : Cx} {CX : CXT} {k n : Nat} {f C : Addr} {fd : FuncData} {ps ks : List Str} {sp : Sp} {E : L2.St → XK} {m : Str} {apos pos : Pos} {o e : Expr} {es : List Expr} {kws : List Keyword} {ta : TE} {t tk : TA} {g : List Value → List Value → List Value} {gV : List V → List V → List V} {pl : Sem Bool}
theorem pe_methW (he : PE X o ta) (c : Cls X.K C) (hm : Meth X.K C m f) (F : FnOk X.prog X.w X.K X.mg X.base CX k f fd ps sp) (hr : Room k X.A) (hb : Binds X.K fd ps []) (hx : ∀ σ, PassesAt CX X σ (E σ)) (ha : PA X (e :: es) t)
    (hst : starEach (e :: es) X.env = (false, eval e X.env) :: starEach es X.env := by rfl) (hpl : (backTo pos (starEach es X.env)).any (·.1) = false := by rfl)
    (ht : eval (.Call (.Attribute o m apos) (e :: es) [] pos) X.env = (do let ov ← eval o X.env; standAt apos.atName; let (f, first) ← holding [ov] (getMethod ov m pl); callWith pos f first (backTo pos (starEach (e :: es) X.env)) (backToKw pos (keywordEach [] X.env))) := by rfl) :
    PE X (.Call (.Attribute o m apos) (e :: es) [] pos) (tMethW C m sp E ta t) := by
  refine ⟨fun pins s σ H Q I h => PySem.W.methodCall_KW (pl := pl) (thn (he.run pins s σ H _ I h) fun u s1 ⟨x, H1, I1, rx, a, dx, fs, ex, ea, l, q⟩ => ?_) ht⟩
  subst ex
  obtain rfl : u = Value.ref a := rx
  exact getmeth_ok I1 ea c hm l (PySem.W.callWith_K (first := [.ref a]) (h₀ := X.base) I1.ok.mod.kin hm.kp (thn (ha.run pos pins s1 σ H1 _ I1 q) fun us s2 ⟨vs, H2, I2, r, q2⟩ => ⟨I2.kIn, run_fnS (us := .ref a :: us) (vs := .ref a :: vs) F hr hb (hx σ) I2 (.cons rfl r) q2⟩) hst hpl)
theorem pe_methW0 (he : PE X o ta) (c : Cls X.K C) (hm : Meth X.K C m f) (F : FnOk X.prog X.w X.K X.mg X.base CX k f fd ps sp) (hr : Room k X.A) (hb : Binds X.K fd ps []) (hx : ∀ σ, PassesAt CX X σ (E σ))
    (ht : eval (.Call (.Attribute o m apos) [] [] pos) X.env = (do let ov ← eval o X.env; standAt apos.atName; let (f, first) ← holding [ov] (getMethod ov m pl); callWith pos f first (backTo pos (starEach [] X.env)) (backToKw pos (keywordEach [] X.env))) := by rfl) :
    PE X (.Call (.Attribute o m apos) [] [] pos) (tMethW C m sp E ta tNil) := by
  refine ⟨fun pins s σ H Q I h => PySem.W.methodCall_KW (pl := pl) (thn (he.run pins s σ H _ I h) fun u s1 ⟨x, H1, I1, rx, a, dx, fs, ex, ea, l, q⟩ => ?_) ht⟩
  subst ex
  obtain rfl : u = Value.ref a := rx
  exact getmeth_ok I1 ea c hm l (PySem.W.callWith_K0 (first := [.ref a]) I1.kIn hm.kp (run_fnS (us := [.ref a]) (vs := [.ref a]) F hr hb (hx σ) I1 (.cons rfl .nil) q))
theorem run_kb {pins : List (Addr × Obj)} {σ : L2.St} {H : Hp} {s : Shared} {Q : VK} {us ws : List Value} {vs zs : List V} (F : FnOk X.prog X.w X.K X.mg X.base CX k f fd ps sp) (hr : Room k X.A) (hb : KBn X.K fd ps n ks g gV) (hx : PassesAt CX X σ (E σ))
    (I : Inv X pins σ H s) (r : Vals vs us) (rz : Vals zs ws) (l1 : vs.length = n) (l2 : zs.length = ks.length) (h : sp (gV vs zs) H Q (E σ)) : wpAny (model X.prog X.w) X.A (call (.ref f) us (ks.zip ws)) (EP X pins σ Q) X.xe s := by
  refine wpAny_call (codeAny_mono (F.run X.A X.stack s H ⟨us, ks.zip ws⟩ (g us ws) (gV vs zs) Q (E σ) hr I.env0 (hb.to s us ws I.kIn (r.length.symm.trans l1) (rz.length.symm.trans l2)) (hb.rel r rz) h) fun r s' hq => ?_)
  cases r with
  | error e => exact hx pins H s e s' I hq
  | ok fl =>
    cases fl with
    | ret u => exact I.after hq
    | next => exact False.elim hq
    | brk => exact False.elim hq
    | cont => exact False.elim hq
/-- o.m(), the keyword-only parameters have their defaults -/
theorem pe_methN0 (he : PE X o ta) (c : Cls X.K C) (hm : Meth X.K C m f) (F : FnOk X.prog X.w X.K X.mg X.base CX k f fd ps sp) (hr : Room k X.A) (hb : KBn X.K fd ps n [] g gV) (hx : ∀ σ, PassesAt CX X σ (E σ))
    (ht : eval (.Call (.Attribute o m apos) [] [] pos) X.env = (do let ov ← eval o X.env; standAt apos.atName; let (f, first) ← holding [ov] (getMethod ov m pl); callWith pos f first (backTo pos (starEach [] X.env)) (backToKw pos (keywordEach [] X.env))) := by rfl) :
    PE X (.Call (.Attribute o m apos) [] [] pos) (tMethN C m n 0 sp gV E ta tNil tNil) := by
  refine ⟨fun pins s σ H Q I h => PySem.W.methodCall_KW (pl := pl) (thn (he.run pins s σ H _ I h) fun u s1 ⟨x, H1, I1, rx, a, dx, fs, ex, ea, l, l1, l2, q⟩ => ?_) ht⟩
  subst ex
  obtain rfl : u = Value.ref a := rx
  exact getmeth_ok I1 ea c hm l (PySem.W.callWith_K0 (first := [.ref a]) I1.kIn hm.kp (run_kb (us := [.ref a]) (ws := []) (vs := [.ref a]) (zs := []) F hr hb (hx σ) I1 (.cons rfl .nil) .nil l1 rfl q))
end
end Pv
namespace Pv
open PySem PySem.Spec PyProof.Rows L2
abbrev sEe : Stmt := topS 66
theorem scEe : FnScope ["instance", "edit", "word"] ["instance", "edit"] (defScope sEe) := ⟨rfl, rfl, rfl, by decide +kernel, rfl, by decide +kernel, by decide +kernel⟩
abbrev Ins := List Int × List Gp
def dI2 (x : Ins) : PyData := dInst x.1 x.2
/-! edits: words 0 to 6 -/
def edW : Nat → Str
  | 0 => "set_capacity"
  | 1 => "set_count"
  | 2 => "set_list"
  | 3 => "add_group"
  | 4 => "remove_group"
  | 5 => "add_post"
  | _ => "remove_post"
def big : Int := 10 ^ 12
/-- the first error of an edit: which class (0 NoPost, 1 NoGroup, 2 BadNumber, 3 BadList, 4 TooMany, 5 LastOne), and what it holds (0 nothing, 1 and 2 the arguments, 3 the number 6, 4 the number 10) -/
def edFail (x : Ins) (w : Nat) (d1 d2 : PyData) : Option (Nat × Nat) :=
  match w with
  | 0 => if ok1 0 x.1 x.2 d1 = false then some (0, 1) else if ok2 0 x.1 d2 = false then some (2, 2) else none
  | 1 => if ok1 1 x.1 x.2 d1 = false then some (1, 1) else if ok2 1 x.1 d2 = false then some (2, 2) else none
  | 2 => if ok1 2 x.1 x.2 d1 = false then some (1, 1) else if ok2 2 x.1 d2 = false then some (3, 2) else none
  | 3 => if listD x.1.length d1 = false then some (3, 1) else if withinD 1 (10 ^ 12) d2 = false then some (2, 2) else if 10 ≤ x.2.length then some (4, 4) else none
  | 4 => if ok1 1 x.1 x.2 d1 = false then some (1, 1) else if x.2.length = 1 then some (5, 0) else none
  | 5 => if withinD 1 (10 ^ 12) d1 = false then some (2, 1) else if 6 ≤ x.1.length then some (4, 3) else none
  | _ => if ok1 0 x.1 x.2 d1 = false then some (0, 1) else if x.1.length = 1 then some (5, 0) else none
def edRes (x : Ins) (w : Nat) (d1 d2 : PyData) : Ins :=
  match w with
  | 0 => resI 0 x.1 x.2 d1 d2
  | 1 => resI 1 x.1 x.2 d1 d2
  | 2 => resI 2 x.1 x.2 d1 d2
  | 3 => (x.1, x.2 ++ [(lstD d1, numD d2)])
  | 4 => (x.1, x.2.take (idx d1) ++ x.2.drop (idx d1 + 1))
  | 5 => (x.1 ++ [numD d1], x.2)
  | _ => (x.1.take (idx d1) ++ x.1.drop (idx d1 + 1), x.2.map fun g => (woL (idx d1 : Nat) g.1, g.2))
def clE (a b c d e f : Addr) : Nat → Addr
  | 0 => a
  | 1 => b
  | 2 => c
  | 3 => d
  | 4 => e
  | _ => f
def fldP (p : Nat) : Str := if p ≤ 2 then "value" else "limit"
def valP (p : Nat) (v1 v2 : V) : V := if p = 1 then v1 else if p = 2 then v2 else if p = 3 then .int 6 else .int 10
def FailW (cl : Nat → Addr) (cp : Nat × Nat) (v1 v2 : V) (H' : Hp) (E : XK) : Prop := if cp.2 = 0 then E (.ref (cl cp.1)) none H' else ∀ d, H' d = none → E (.ref (cl cp.1)) (some d) (upd H' d (.xd [(fldP cp.2, valP cp.2 v1 v2)]))
def edArgs (w : Nat) (v1 v2 : V) : List V := if w < 4 then [v1, v2] else [v1]
def spEe (K : PySem.W.Frag) (a b c d e f : Addr) : Sp := fun vs H Q E => ∃ (st r i ed : Addr) (w : Nat) (v1 v2 : V) (x : Ins) (d1 d2 : PyData), vs = [.ref i, .ref ed] ∧ w < 7 ∧ SqT K H ed (.str (edW w) :: edArgs w v1 v2) ∧ Dp K H (.ref i) (dI2 x) ∧ InsOk x.1 x.2 ∧ Dq K st r H v1 d1 ∧ (w < 4 → Dq K st r H v2 d2) ∧
  ∀ H', Same H H' → (∀ cp, edFail x w d1 d2 = some cp → FailW (clE a b c d e f) cp v1 v2 H' E) ∧ (edFail x w d1 d2 = none → ∀ p, Dp K H' (.ref p) (dI2 (edRes x w d1 d2)) → Q (.ref p) H')
theorem ite_f {c : Bool} {A B : Prop} (hc : c = false) (h : B) : if c = true then A else B := by rw [if_neg (by rw [hc]; decide)]; exact h
theorem str_f {a b : Str} (h : ¬ a = b) : decide (V.str a = V.str b) = false := decide_eq_false fun z => h (V.str.inj z)
theorem str_t (a : Str) : decide (V.str a = V.str a) = true := decide_eq_true rfl
section
variable {P : Program} {w : World} {K : PySem.W.Frag} {mg : Str → Option Value} {base : Heap}
set_option maxHeartbeats 16000000 in
theorem ok_Ee {f fWC fWN fWL fAG fRG fAP fRP : Addr} {fd fdWC fdWN fdWL fdAG fdRG fdAP fdRP : FuncData} (F : Fun K "edited" "edited" sEe f fd)
    (FWC : Fun K "with_capacity" "with_capacity" sWC fWC fdWC) (bWC : Binds K fdWC ["instance", "post", "capacity"] []) (gWC : mg "with_capacity" = some (.ref fWC)) (GWC : FnOk P w K mg base (CX P w) 4 fWC fdWC ["instance", "post", "capacity"] (spW K 0 cNP cBN))
    (FWN : Fun K "with_count" "with_count" sWN fWN fdWN) (bWN : Binds K fdWN ["instance", "group", "count"] []) (gWN : mg "with_count" = some (.ref fWN)) (GWN : FnOk P w K mg base (CX P w) 4 fWN fdWN ["instance", "group", "count"] (spW K 1 cNG cBN))
    (FWL : Fun K "with_list" "with_list" sWL fWL fdWL) (bWL : Binds K fdWL ["instance", "group", "posts"] []) (gWL : mg "with_list" = some (.ref fWL)) (GWL : FnOk P w K mg base (CX P w) 4 fWL fdWL ["instance", "group", "posts"] (spW K 2 cNG cBL))
    (FAG : Fun K "with_group" "with_group" sAG fAG fdAG) (bAG : Binds K fdAG ["instance", "posts", "count"] []) (gAG : mg "with_group" = some (.ref fAG)) (GAG : FnOk P w K mg base (CX P w) 4 fAG fdAG ["instance", "posts", "count"] (spAG K cBL cBN cTM))
    (FRG : Fun K "without_group" "without_group" sRG fRG fdRG) (bRG : Binds K fdRG ["instance", "group"] []) (gRG : mg "without_group" = some (.ref fRG)) (GRG : FnOk P w K mg base (CX P w) 4 fRG fdRG ["instance", "group"] (spRG K cNG cLO))
    (FAP : Fun K "with_post" "with_post" sAP fAP fdAP) (bAP : Binds K fdAP ["instance", "capacity"] []) (gAP : mg "with_post" = some (.ref fAP)) (GAP : FnOk P w K mg base (CX P w) 4 fAP fdAP ["instance", "capacity"] (spAP K cBN cTM))
    (FRP : Fun K "without_post" "without_post" sRP fRP fdRP) (bRP : Binds K fdRP ["instance", "post"] []) (gRP : mg "without_post" = some (.ref fRP)) (GRP : FnOk P w K mg base (CX P w) 4 fRP fdRP ["instance", "post"] (spRP K cNP cLO))
     :
    FnOk P w K mg base (L2.CX P w) 5 f fd ["instance", "edit"] (spEe K cNP cNG cBN cBL cTM cLO) := by
  refine F.okX scEe (fun vs H Q E h => ?_) (fun cdv A outer s H vs Q E hr h => ?_)
  · obtain ⟨st, r, i, ed, w, v1, v2, x, d1, d2, rfl, _⟩ := h; rfl
  · obtain ⟨st, r, i, ed, w, v1, v2, x, d1, d2, rfl, hw, hE, hI, ok, h1, h2, q⟩ := h
    refine ⟨_, pss_cons (ps_set (i := 2) scEe.nd rfl (.inl rfl) (pe_ix ix_tup (pv 1) (pe_int) (fun _ _ => rfl)))
      (pss_cons (ps_if (pt_cmpR op_eq (pv 2) (pe_str) (nomark _))
        (pss_one (ps_ret (pe_callS GWC (hr.mono (by omega)) rfl gWC FWC.kp bWC (fun σ => passAt (takes_of rfl rfl rfl rfl) σ) (pa_cons (pv 0) (pa_cons (pe_ix ix_tup (pv 1) (pe_int) (fun _ _ => rfl)) (pa_cons (pe_ix ix_tup (pv 1) (pe_int) (fun _ _ => rfl)) pa_nil)))))) pss_nil)
      (pss_cons (ps_if (pt_cmpR op_eq (pv 2) (pe_str) (nomark _))
        (pss_one (ps_ret (pe_callS GWN (hr.mono (by omega)) rfl gWN FWN.kp bWN (fun σ => passAt (takes_of rfl rfl rfl rfl) σ) (pa_cons (pv 0) (pa_cons (pe_ix ix_tup (pv 1) (pe_int) (fun _ _ => rfl)) (pa_cons (pe_ix ix_tup (pv 1) (pe_int) (fun _ _ => rfl)) pa_nil)))))) pss_nil)
      (pss_cons (ps_if (pt_cmpR op_eq (pv 2) (pe_str) (nomark _))
        (pss_one (ps_ret (pe_callS GWL (hr.mono (by omega)) rfl gWL FWL.kp bWL (fun σ => passAt (takes_of rfl rfl rfl rfl) σ) (pa_cons (pv 0) (pa_cons (pe_ix ix_tup (pv 1) (pe_int) (fun _ _ => rfl)) (pa_cons (pe_ix ix_tup (pv 1) (pe_int) (fun _ _ => rfl)) pa_nil)))))) pss_nil)
      (pss_cons (ps_if (pt_cmpR op_eq (pv 2) (pe_str) (nomark _))
        (pss_one (ps_ret (pe_callS GAG (hr.mono (by omega)) rfl gAG FAG.kp bAG (fun σ => passAt (takes_of rfl rfl rfl rfl) σ) (pa_cons (pv 0) (pa_cons (pe_ix ix_tup (pv 1) (pe_int) (fun _ _ => rfl)) (pa_cons (pe_ix ix_tup (pv 1) (pe_int) (fun _ _ => rfl)) pa_nil)))))) pss_nil)
      (pss_cons (ps_if (pt_cmpR op_eq (pv 2) (pe_str) (nomark _))
        (pss_one (ps_ret (pe_callS GRG (hr.mono (by omega)) rfl gRG FRG.kp bRG (fun σ => passAt (takes_of rfl rfl rfl rfl) σ) (pa_cons (pv 0) (pa_cons (pe_ix ix_tup (pv 1) (pe_int) (fun _ _ => rfl)) pa_nil))))) pss_nil)
      (pss_cons (ps_if (pt_cmpR op_eq (pv 2) (pe_str) (nomark _))
        (pss_one (ps_ret (pe_callS GAP (hr.mono (by omega)) rfl gAP FAP.kp bAP (fun σ => passAt (takes_of rfl rfl rfl rfl) σ) (pa_cons (pv 0) (pa_cons (pe_ix ix_tup (pv 1) (pe_int) (fun _ _ => rfl)) pa_nil))))) pss_nil)
      (pss_one (ps_ret (pe_callS GRP (hr.mono (by omega)) rfl gRP FRP.kp bRP (fun σ => passAt (takes_of rfl rfl rfl rfl) σ) (pa_cons (pv 0) (pa_cons (pe_ix ix_tup (pv 1) (pe_int) (fun _ _ => rfl)) pa_nil))))))))))), ?_⟩
    obtain ⟨cs, gs⟩ := x
    have h7 : w = 0 ∨ w = 1 ∨ w = 2 ∨ w = 3 ∨ w = 4 ∨ w = 5 ∨ w = 6 := by omega
    rcases h7 with rfl | rfl | rfl | rfl | rfl | rfl | rfl
    · have h2 := h2 (by decide)
      have hE : SqT K H ed [.str "set_capacity", v1, v2] := hE
      refine ⟨.ref ed, rfl, ed, _, 0, .str "set_capacity", rfl, rfl, hE, atI_nat (j := 0) rfl, ?_⟩
      refine ⟨_, rfl, rfl, _, rfl, iteT ?_⟩
      refine ⟨.ref i, rfl, .ref ed, rfl, ed, _, 1, v1, rfl, rfl, hE, atI_nat (j := 1) rfl, .ref ed, rfl, ed, _, 2, v2, rfl, rfl, hE, atI_nat (j := 2) rfl, st, r, i, v1, v2, cs, gs, d1, d2, rfl, hI, ok, h1, h2, fun H' s' => ⟨fun a1 d nd => ?_, fun a1 a2 d nd => ?_, fun a1 a2 p hp => ?_⟩⟩
      · exact (q H' s').1 (0, 1) (by show (if ok1 0 cs gs d1 = false then some (0, 1) else if ok2 0 cs d2 = false then some (2, 2) else none) = some (0, 1); exact if_pos a1) d nd
      · exact (q H' s').1 (2, 2) (by show (if ok1 0 cs gs d1 = false then some (0, 1) else if ok2 0 cs d2 = false then some (2, 2) else none) = some (2, 2); rw [if_neg (by rw [a1]; decide)]; exact if_pos a2) d nd
      · exact (q H' s').2 (by show (if ok1 0 cs gs d1 = false then some (0, 1) else if ok2 0 cs d2 = false then some (2, 2) else none) = none; rw [if_neg (by rw [a1]; decide)]; rw [if_neg (by rw [a2]; decide)]) p hp
    · have h2 := h2 (by decide)
      have hE : SqT K H ed [.str "set_count", v1, v2] := hE
      refine ⟨.ref ed, rfl, ed, _, 0, .str "set_count", rfl, rfl, hE, atI_nat (j := 0) rfl, ?_⟩
      refine ⟨_, rfl, rfl, _, rfl, ite_f (str_f (by decide +kernel)) ?_⟩
      refine ⟨_, rfl, rfl, _, rfl, iteT ?_⟩
      refine ⟨.ref i, rfl, .ref ed, rfl, ed, _, 1, v1, rfl, rfl, hE, atI_nat (j := 1) rfl, .ref ed, rfl, ed, _, 2, v2, rfl, rfl, hE, atI_nat (j := 2) rfl, st, r, i, v1, v2, cs, gs, d1, d2, rfl, hI, ok, h1, h2, fun H' s' => ⟨fun a1 d nd => ?_, fun a1 a2 d nd => ?_, fun a1 a2 p hp => ?_⟩⟩
      · exact (q H' s').1 (1, 1) (by show (if ok1 1 cs gs d1 = false then some (1, 1) else if ok2 1 cs d2 = false then some (2, 2) else none) = some (1, 1); exact if_pos a1) d nd
      · exact (q H' s').1 (2, 2) (by show (if ok1 1 cs gs d1 = false then some (1, 1) else if ok2 1 cs d2 = false then some (2, 2) else none) = some (2, 2); rw [if_neg (by rw [a1]; decide)]; exact if_pos a2) d nd
      · exact (q H' s').2 (by show (if ok1 1 cs gs d1 = false then some (1, 1) else if ok2 1 cs d2 = false then some (2, 2) else none) = none; rw [if_neg (by rw [a1]; decide)]; rw [if_neg (by rw [a2]; decide)]) p hp
    · have h2 := h2 (by decide)
      have hE : SqT K H ed [.str "set_list", v1, v2] := hE
      refine ⟨.ref ed, rfl, ed, _, 0, .str "set_list", rfl, rfl, hE, atI_nat (j := 0) rfl, ?_⟩
      refine ⟨_, rfl, rfl, _, rfl, ite_f (str_f (by decide +kernel)) ?_⟩
      refine ⟨_, rfl, rfl, _, rfl, ite_f (str_f (by decide +kernel)) ?_⟩
      refine ⟨_, rfl, rfl, _, rfl, iteT ?_⟩
      refine ⟨.ref i, rfl, .ref ed, rfl, ed, _, 1, v1, rfl, rfl, hE, atI_nat (j := 1) rfl, .ref ed, rfl, ed, _, 2, v2, rfl, rfl, hE, atI_nat (j := 2) rfl, st, r, i, v1, v2, cs, gs, d1, d2, rfl, hI, ok, h1, h2, fun H' s' => ⟨fun a1 d nd => ?_, fun a1 a2 d nd => ?_, fun a1 a2 p hp => ?_⟩⟩
      · exact (q H' s').1 (1, 1) (by show (if ok1 2 cs gs d1 = false then some (1, 1) else if ok2 2 cs d2 = false then some (3, 2) else none) = some (1, 1); exact if_pos a1) d nd
      · exact (q H' s').1 (3, 2) (by show (if ok1 2 cs gs d1 = false then some (1, 1) else if ok2 2 cs d2 = false then some (3, 2) else none) = some (3, 2); rw [if_neg (by rw [a1]; decide)]; exact if_pos a2) d nd
      · exact (q H' s').2 (by show (if ok1 2 cs gs d1 = false then some (1, 1) else if ok2 2 cs d2 = false then some (3, 2) else none) = none; rw [if_neg (by rw [a1]; decide)]; rw [if_neg (by rw [a2]; decide)]) p hp
    · have h2 := h2 (by decide)
      have hE : SqT K H ed [.str "add_group", v1, v2] := hE
      refine ⟨.ref ed, rfl, ed, _, 0, .str "add_group", rfl, rfl, hE, atI_nat (j := 0) rfl, ?_⟩
      refine ⟨_, rfl, rfl, _, rfl, ite_f (str_f (by decide +kernel)) ?_⟩
      refine ⟨_, rfl, rfl, _, rfl, ite_f (str_f (by decide +kernel)) ?_⟩
      refine ⟨_, rfl, rfl, _, rfl, ite_f (str_f (by decide +kernel)) ?_⟩
      refine ⟨_, rfl, rfl, _, rfl, iteT ?_⟩
      refine ⟨.ref i, rfl, .ref ed, rfl, ed, _, 1, v1, rfl, rfl, hE, atI_nat (j := 1) rfl, .ref ed, rfl, ed, _, 2, v2, rfl, rfl, hE, atI_nat (j := 2) rfl, st, r, i, v1, v2, cs, gs, d1, d2, rfl, hI, ok, h1, h2, fun H' s' => ⟨fun a1 d nd => ?_, fun a1 a2 d nd => ?_, fun a1 a2 a3 d nd => ?_, fun a1 a2 a3 p hp => ?_⟩⟩
      · exact (q H' s').1 (3, 1) (by show (if listD cs.length d1 = false then some (3, 1) else if withinD 1 (10 ^ 12) d2 = false then some (2, 2) else if 10 ≤ gs.length then some (4, 4) else none) = some (3, 1); exact if_pos a1) d nd
      · exact (q H' s').1 (2, 2) (by show (if listD cs.length d1 = false then some (3, 1) else if withinD 1 (10 ^ 12) d2 = false then some (2, 2) else if 10 ≤ gs.length then some (4, 4) else none) = some (2, 2); rw [if_neg (by rw [a1]; decide)]; exact if_pos a2) d nd
      · exact (q H' s').1 (4, 4) (by show (if listD cs.length d1 = false then some (3, 1) else if withinD 1 (10 ^ 12) d2 = false then some (2, 2) else if 10 ≤ gs.length then some (4, 4) else none) = some (4, 4); rw [if_neg (by rw [a1]; decide)]; rw [if_neg (by rw [a2]; decide)]; exact if_pos a3) d nd
      · exact (q H' s').2 (by show (if listD cs.length d1 = false then some (3, 1) else if withinD 1 (10 ^ 12) d2 = false then some (2, 2) else if 10 ≤ gs.length then some (4, 4) else none) = none; rw [if_neg (by rw [a1]; decide)]; rw [if_neg (by rw [a2]; decide)]; rw [if_neg (by omega)]) p hp
    · have hE : SqT K H ed [.str "remove_group", v1] := hE
      refine ⟨.ref ed, rfl, ed, _, 0, .str "remove_group", rfl, rfl, hE, atI_nat (j := 0) rfl, ?_⟩
      refine ⟨_, rfl, rfl, _, rfl, ite_f (str_f (by decide +kernel)) ?_⟩
      refine ⟨_, rfl, rfl, _, rfl, ite_f (str_f (by decide +kernel)) ?_⟩
      refine ⟨_, rfl, rfl, _, rfl, ite_f (str_f (by decide +kernel)) ?_⟩
      refine ⟨_, rfl, rfl, _, rfl, ite_f (str_f (by decide +kernel)) ?_⟩
      refine ⟨_, rfl, rfl, _, rfl, iteT ?_⟩
      refine ⟨.ref i, rfl, .ref ed, rfl, ed, _, 1, v1, rfl, rfl, hE, atI_nat (j := 1) rfl, st, r, i, v1, cs, gs, d1, rfl, hI, ok, h1, fun H' s' => ⟨fun a1 d nd => ?_, fun a1 a2  => ?_, fun a1 a2 p hp => ?_⟩⟩
      · exact (q H' s').1 (1, 1) (by show (if ok1 1 cs gs d1 = false then some (1, 1) else if gs.length = 1 then some (5, 0) else none) = some (1, 1); exact if_pos a1) d nd
      · exact (q H' s').1 (5, 0) (by show (if ok1 1 cs gs d1 = false then some (1, 1) else if gs.length = 1 then some (5, 0) else none) = some (5, 0); rw [if_neg (by rw [a1]; decide)]; exact if_pos a2) 
      · exact (q H' s').2 (by show (if ok1 1 cs gs d1 = false then some (1, 1) else if gs.length = 1 then some (5, 0) else none) = none; rw [if_neg (by rw [a1]; decide)]; rw [if_neg (by omega)]) p hp
    · have hE : SqT K H ed [.str "add_post", v1] := hE
      refine ⟨.ref ed, rfl, ed, _, 0, .str "add_post", rfl, rfl, hE, atI_nat (j := 0) rfl, ?_⟩
      refine ⟨_, rfl, rfl, _, rfl, ite_f (str_f (by decide +kernel)) ?_⟩
      refine ⟨_, rfl, rfl, _, rfl, ite_f (str_f (by decide +kernel)) ?_⟩
      refine ⟨_, rfl, rfl, _, rfl, ite_f (str_f (by decide +kernel)) ?_⟩
      refine ⟨_, rfl, rfl, _, rfl, ite_f (str_f (by decide +kernel)) ?_⟩
      refine ⟨_, rfl, rfl, _, rfl, ite_f (str_f (by decide +kernel)) ?_⟩
      refine ⟨_, rfl, rfl, _, rfl, iteT ?_⟩
      refine ⟨.ref i, rfl, .ref ed, rfl, ed, _, 1, v1, rfl, rfl, hE, atI_nat (j := 1) rfl, st, r, i, v1, cs, gs, d1, rfl, hI, ok, h1, fun H' s' => ⟨fun a1 d nd => ?_, fun a1 a2 d nd => ?_, fun a1 a2 p hp => ?_⟩⟩
      · exact (q H' s').1 (2, 1) (by show (if withinD 1 (10 ^ 12) d1 = false then some (2, 1) else if 6 ≤ cs.length then some (4, 3) else none) = some (2, 1); exact if_pos a1) d nd
      · exact (q H' s').1 (4, 3) (by show (if withinD 1 (10 ^ 12) d1 = false then some (2, 1) else if 6 ≤ cs.length then some (4, 3) else none) = some (4, 3); rw [if_neg (by rw [a1]; decide)]; exact if_pos a2) d nd
      · exact (q H' s').2 (by show (if withinD 1 (10 ^ 12) d1 = false then some (2, 1) else if 6 ≤ cs.length then some (4, 3) else none) = none; rw [if_neg (by rw [a1]; decide)]; rw [if_neg (by omega)]) p hp
    · have hE : SqT K H ed [.str "remove_post", v1] := hE
      refine ⟨.ref ed, rfl, ed, _, 0, .str "remove_post", rfl, rfl, hE, atI_nat (j := 0) rfl, ?_⟩
      refine ⟨_, rfl, rfl, _, rfl, ite_f (str_f (by decide +kernel)) ?_⟩
      refine ⟨_, rfl, rfl, _, rfl, ite_f (str_f (by decide +kernel)) ?_⟩
      refine ⟨_, rfl, rfl, _, rfl, ite_f (str_f (by decide +kernel)) ?_⟩
      refine ⟨_, rfl, rfl, _, rfl, ite_f (str_f (by decide +kernel)) ?_⟩
      refine ⟨_, rfl, rfl, _, rfl, ite_f (str_f (by decide +kernel)) ?_⟩
      refine ⟨_, rfl, rfl, _, rfl, ite_f (str_f (by decide +kernel)) ?_⟩
      refine ⟨.ref i, rfl, .ref ed, rfl, ed, _, 1, v1, rfl, rfl, hE, atI_nat (j := 1) rfl, st, r, i, v1, cs, gs, d1, rfl, hI, ok, h1, fun H' s' => ⟨fun a1 d nd => ?_, fun a1 a2  => ?_, fun a1 a2 p hp => ?_⟩⟩
      · exact (q H' s').1 (0, 1) (by show (if ok1 0 cs gs d1 = false then some (0, 1) else if cs.length = 1 then some (5, 0) else none) = some (0, 1); exact if_pos a1) d nd
      · exact (q H' s').1 (5, 0) (by show (if ok1 0 cs gs d1 = false then some (0, 1) else if cs.length = 1 then some (5, 0) else none) = some (5, 0); rw [if_neg (by rw [a1]; decide)]; exact if_pos a2) 
      · exact (q H' s').2 (by show (if ok1 0 cs gs d1 = false then some (0, 1) else if cs.length = 1 then some (5, 0) else none) = none; rw [if_neg (by rw [a1]; decide)]; rw [if_neg (by omega)]) p hp
end
end Pv
namespace Pv
open PySem PySem.Spec PyProof.Rows L2
/-! what an edit leads to is an instance -/
structure InOk (cs : List Int) (gs : List Gp) : Prop where
  ok : InsOk cs gs
  nd : ∀ g ∈ gs, g.1.Nodup
theorem ed_sub : ∀ {xs : List Int} {n : Nat}, xs.Nodup → (∀ x ∈ xs, 0 ≤ x ∧ x < (n : Int)) → xs.length ≤ n
  | xs, 0, _, h => by
    cases xs with
    | nil => exact Nat.le_refl _
    | cons a l => have := h a (by simp); omega
  | xs, n + 1, nd, h => by
    have h1 : (xs.erase (n : Int)).Nodup := nd.erase _
    have := ed_sub (n := n) h1 fun x hx => by
      have hm := List.mem_of_mem_erase hx
      have hne : x ≠ (n : Int) := fun e => by
        subst e
        exact absurd hx (nd.not_mem_erase)
      have := h x hm; omega
    rw [List.length_erase] at this
    split at this <;> omega
theorem list_in {n : Nat} {d : PyData} (h : listD n d = true) : (∀ x ∈ lstD d, 0 ≤ x ∧ x < (n : Int)) ∧ (lstD d).Nodup ∧ (lstD d).length ≤ n := by
  obtain ⟨row, ed, el⟩ := list_ints h
  rw [el]
  rw [ed] at h
  have h : listD n (.tuple (row.map .int)) = true := h
  rw [listD_ints, Bool.and_eq_true] at h
  obtain ⟨h1, h2⟩ := h
  have h2 := of_decide_eq_true h2
  have h3 : ∀ x ∈ row, 0 ≤ x ∧ x < (n : Int) := fun x hx => by
    have := of_decide_eq_true (List.all_eq_true.mp h1 x hx); omega
  exact ⟨h3, h2, ed_sub h2 h3⟩
theorem num_in {a b : Int} {d : PyData} (h : withinD a b d = true) : a ≤ numD d ∧ numD d ≤ b := by
  obtain ⟨i, rfl, h1, h2⟩ := within_int h
  exact ⟨h1, h2⟩
theorem idx_in {b : Int} {d : PyData} (h : withinD 0 b d = true) : ((idx d : Nat) : Int) ≤ b := by
  obtain ⟨i, rfl, h1, h2⟩ := within_int h
  show ((i.toNat : Nat) : Int) ≤ b
  omega
theorem wo_in {n p : Nat} {ps : List Int} (hp : p < n) (h : ∀ x ∈ ps, 0 ≤ x ∧ x < (n : Int)) (nd : ps.Nodup) : (∀ x ∈ woL (p : Nat) ps, 0 ≤ x ∧ x < ((n - 1 : Nat) : Int)) ∧ (woL (p : Nat) ps).Nodup ∧ (woL (p : Nat) ps).length ≤ ps.length := by
  unfold woL
  refine ⟨fun x hx => ?_, ?_, ?_⟩
  · obtain ⟨y, hy, rfl⟩ := List.mem_map.mp hx
    obtain ⟨h1, h2⟩ := List.mem_filter.mp hy
    have h2 := of_decide_eq_true h2
    have := h y h1
    split <;> omega
  · have f := nd.filter fun x => decide (x ≠ ((p : Nat) : Int))
    unfold List.Nodup
    rw [List.pairwise_map]
    refine List.Pairwise.imp_of_mem ?_ f
    intro a b ha hb hne
    have h1 := of_decide_eq_true (List.mem_filter.mp ha).2
    have h2 := of_decide_eq_true (List.mem_filter.mp hb).2
    split <;> split <;> omega
  · rw [List.length_map]; exact List.length_filter_le _ _
theorem if_some {α : Type} {c : Prop} [Decidable c] {a : α} {o : Option α} (h : (if c then some a else o) = none) : ¬ c ∧ o = none := by
  by_cases hc : c
  · rw [if_pos hc] at h; cases h
  · rw [if_neg hc] at h; exact ⟨hc, h⟩
theorem ne_ff {b : Bool} (h : ¬ b = false) : b = true := by cases b <;> simp at h ⊢
theorem ed_ok {x : Ins} {w : Nat} {d1 d2 : PyData} (hw : w < 7) (I : InOk x.1 x.2) (h : edFail x w d1 d2 = none) : InOk (edRes x w d1 d2).1 (edRes x w d1 d2).2 := by
  obtain ⟨cs, gs⟩ := x
  have ok := I.ok
  have I : InOk cs gs := I
  have ok : InsOk cs gs := I.ok
  have bn0 : ∀ {d}, withinD 0 (bnd 0 cs gs) d = true → idx d < cs.length := fun {d} h => by have := idx_in h; unfold bnd at this; rw [if_pos rfl] at this; omega
  have bn1 : ∀ {k : Nat} {d}, k ≠ 0 → withinD 0 (bnd k cs gs) d = true → idx d < gs.length := fun {k d} hk h => by have := idx_in h; unfold bnd at this; rw [if_neg hk] at this; omega
  have gat_in : ∀ {k}, k < gs.length → gat gs k ∈ gs := fun {k} hk => by unfold gat; rw [List.getD_eq_getElem?_getD, List.getElem?_eq_getElem hk]; exact List.getElem_mem _
  have setI : ∀ {k : Nat} {g : Gp}, (g.1.length ≤ 6 ∧ (∀ p ∈ g.1, 0 ≤ p ∧ p < (cs.length : Int)) ∧ 1 ≤ g.2 ∧ g.2 ≤ 10 ^ 12) → g.1.Nodup → InOk cs (gs.set k g) := fun {k g} hg nd =>
    ⟨⟨ok.c1, ok.c6, ok.cb, by rw [List.length_set]; exact ok.g1, by rw [List.length_set]; exact ok.g10, fun y hy => by
      rcases List.mem_or_eq_of_mem_set hy with h | h
      · exact ok.gp y h
      · rw [h]; exact hg⟩, fun y hy => by
      rcases List.mem_or_eq_of_mem_set hy with h | h
      · exact I.nd y h
      · rw [h]; exact nd⟩
  have h7 : w = 0 ∨ w = 1 ∨ w = 2 ∨ w = 3 ∨ w = 4 ∨ w = 5 ∨ w = 6 := by omega
  rcases h7 with rfl | rfl | rfl | rfl | rfl | rfl | rfl
  · obtain ⟨a1, h⟩ := if_some (show (if ok1 0 cs gs d1 = false then some (0, 1) else if ok2 0 cs d2 = false then some (2, 2) else none) = none from h)
    obtain ⟨a2, _⟩ := if_some h
    have b2 := num_in (ne_ff a2 : withinD 1 (10 ^ 12) d2 = true)
    show InOk (cs.set (idx d1) (numD d2)) gs
    exact ⟨⟨by rw [List.length_set]; exact ok.c1, by rw [List.length_set]; exact ok.c6, fun c hc => by
      rcases List.mem_or_eq_of_mem_set hc with h | h
      · exact ok.cb c h
      · rw [h]; exact b2, ok.g1, ok.g10, fun g hg => by rw [List.length_set]; exact ok.gp g hg⟩, I.nd⟩
  · obtain ⟨a1, h⟩ := if_some (show (if ok1 1 cs gs d1 = false then some (1, 1) else if ok2 1 cs d2 = false then some (2, 2) else none) = none from h)
    obtain ⟨a2, _⟩ := if_some h
    have b2 := num_in (ne_ff a2 : withinD 1 (10 ^ 12) d2 = true)
    have hm := gat_in (bn1 (k := 1) (by decide) (ne_ff a1))
    have gb := ok.gp _ hm
    exact setI ⟨gb.1, gb.2.1, b2⟩ (I.nd (gat gs (idx d1)) hm)
  · obtain ⟨a1, h⟩ := if_some (show (if ok1 2 cs gs d1 = false then some (1, 1) else if ok2 2 cs d2 = false then some (3, 2) else none) = none from h)
    obtain ⟨a2, _⟩ := if_some h
    obtain ⟨l1, l2, l3⟩ := list_in (ne_ff a2 : listD cs.length d2 = true)
    have hm := gat_in (bn1 (k := 2) (by decide) (ne_ff a1))
    have gb := ok.gp _ hm
    have c6 := ok.c6
    exact setI ⟨Nat.le_trans l3 c6, l1, gb.2.2⟩ l2
  · obtain ⟨a1, h⟩ := if_some (show (if listD cs.length d1 = false then some (3, 1) else if withinD 1 (10 ^ 12) d2 = false then some (2, 2) else if 10 ≤ gs.length then some (4, 4) else none) = none from h)
    obtain ⟨a2, h⟩ := if_some h
    obtain ⟨a3, _⟩ := if_some h
    obtain ⟨l1, l2, l3⟩ := list_in (ne_ff a1)
    have b2 := num_in (ne_ff a2)
    have c6 := ok.c6
    show InOk cs (gs ++ [(lstD d1, numD d2)])
    exact ⟨⟨ok.c1, ok.c6, ok.cb, by simp, by simp; omega, fun g hg => by
      rcases List.mem_append.mp hg with h | h
      · exact ok.gp g h
      · rw [List.mem_singleton.mp h]; exact ⟨Nat.le_trans l3 c6, l1, b2⟩⟩, fun g hg => by
      rcases List.mem_append.mp hg with h | h
      · exact I.nd g h
      · rw [List.mem_singleton.mp h]; exact l2⟩
  · obtain ⟨a1, h⟩ := if_some (show (if ok1 1 cs gs d1 = false then some (1, 1) else if gs.length = 1 then some (5, 0) else none) = none from h)
    obtain ⟨a2, _⟩ := if_some h
    have hi := bn1 (k := 1) (by decide) (ne_ff a1)
    have g1 := ok.g1
    have g10 := ok.g10
    have sub : ∀ g ∈ gs.take (idx d1) ++ gs.drop (idx d1 + 1), g ∈ gs := fun g hg => by
      rcases List.mem_append.mp hg with h | h
      · exact List.mem_of_mem_take h
      · exact List.mem_of_mem_drop h
    show InOk cs (gs.take (idx d1) ++ gs.drop (idx d1 + 1))
    exact ⟨⟨ok.c1, ok.c6, ok.cb, by rw [List.length_append, List.length_take, List.length_drop]; omega, by rw [List.length_append, List.length_take, List.length_drop]; omega, fun g hg => ok.gp g (sub g hg)⟩, fun g hg => I.nd g (sub g hg)⟩
  · obtain ⟨a1, h⟩ := if_some (show (if withinD 1 (10 ^ 12) d1 = false then some (2, 1) else if 6 ≤ cs.length then some (4, 3) else none) = none from h)
    obtain ⟨a2, _⟩ := if_some h
    have b1 := num_in (ne_ff a1)
    show InOk (cs ++ [numD d1]) gs
    exact ⟨⟨by simp, by simp; omega, fun c hc => by
      rcases List.mem_append.mp hc with h | h
      · exact ok.cb c h
      · rw [List.mem_singleton.mp h]; exact b1, ok.g1, ok.g10, fun g hg => by
      have gb := ok.gp g hg
      exact ⟨gb.1, fun p hp => by have := gb.2.1 p hp; rw [List.length_append]; simp; omega, gb.2.2⟩⟩, I.nd⟩
  · obtain ⟨a1, h⟩ := if_some (show (if ok1 0 cs gs d1 = false then some (0, 1) else if cs.length = 1 then some (5, 0) else none) = none from h)
    obtain ⟨a2, _⟩ := if_some h
    have hi := bn0 (ne_ff a1)
    have c1 := ok.c1
    have c6 := ok.c6
    have ln : (cs.take (idx d1) ++ cs.drop (idx d1 + 1)).length = cs.length - 1 := by rw [List.length_append, List.length_take, List.length_drop]; omega
    show InOk (cs.take (idx d1) ++ cs.drop (idx d1 + 1)) (gs.map fun g => (woL (idx d1 : Nat) g.1, g.2))
    refine ⟨⟨by rw [ln]; omega, by rw [ln]; omega, fun c hc => ?_, by rw [List.length_map]; exact ok.g1, by rw [List.length_map]; exact ok.g10, fun g hg => ?_⟩, fun g hg => ?_⟩
    · rcases List.mem_append.mp hc with h | h
      · exact ok.cb c (List.mem_of_mem_take h)
      · exact ok.cb c (List.mem_of_mem_drop h)
    · obtain ⟨g0, h0, rfl⟩ := List.mem_map.mp hg
      have gb := ok.gp g0 h0
      obtain ⟨w1, w2, w3⟩ := wo_in hi gb.2.1 (I.nd g0 h0)
      exact ⟨Nat.le_trans w3 gb.1, fun p hp => by have := w1 p hp; rw [ln]; exact this, gb.2.2⟩
    · obtain ⟨g0, h0, rfl⟩ := List.mem_map.mp hg
      exact (wo_in hi (ok.gp g0 h0).2.1 (I.nd g0 h0)).2.1
def dEd (w : Nat) (d1 d2 : PyData) : PyData := .tuple (.str (edW w) :: if w < 4 then [d1, d2] else [d1])
theorem to_within {a b : Int} {d : PyData} (h : withinD a b d = true) : tupOnly d = true := by
  obtain ⟨i, rfl, _⟩ := within_int h; rfl
theorem to_listD {n : Int} {d : PyData} (h : listD n d = true) : tupOnly d = true := by
  obtain ⟨row, rfl, _⟩ := list_ints h; exact to_dI _
/-- the arguments of an edit that succeeds are integers and tuples of integers -/
theorem ed_args {x : Ins} {w : Nat} {d1 d2 : PyData} (hw : w < 7) (h : edFail x w d1 d2 = none) : tupOnly d1 = true ∧ (w < 4 → tupOnly d2 = true) := by
  obtain ⟨cs, gs⟩ := x
  have h7 : w = 0 ∨ w = 1 ∨ w = 2 ∨ w = 3 ∨ w = 4 ∨ w = 5 ∨ w = 6 := by omega
  rcases h7 with rfl | rfl | rfl | rfl | rfl | rfl | rfl
  · obtain ⟨a1, h⟩ := if_some (show (if ok1 0 cs gs d1 = false then some (0, 1) else if ok2 0 cs d2 = false then some (2, 2) else none) = none from h)
    obtain ⟨a2, _⟩ := if_some h
    exact ⟨to_within (ne_ff a1), fun _ => to_within (a := 1) (b := 10 ^ 12) (ne_ff a2)⟩
  · obtain ⟨a1, h⟩ := if_some (show (if ok1 1 cs gs d1 = false then some (1, 1) else if ok2 1 cs d2 = false then some (2, 2) else none) = none from h)
    obtain ⟨a2, _⟩ := if_some h
    exact ⟨to_within (ne_ff a1), fun _ => to_within (a := 1) (b := 10 ^ 12) (ne_ff a2)⟩
  · obtain ⟨a1, h⟩ := if_some (show (if ok1 2 cs gs d1 = false then some (1, 1) else if ok2 2 cs d2 = false then some (3, 2) else none) = none from h)
    obtain ⟨a2, _⟩ := if_some h
    exact ⟨to_within (ne_ff a1), fun _ => to_listD (n := cs.length) (ne_ff a2)⟩
  · obtain ⟨a1, h⟩ := if_some (show (if listD cs.length d1 = false then some (3, 1) else if withinD 1 (10 ^ 12) d2 = false then some (2, 2) else if 10 ≤ gs.length then some (4, 4) else none) = none from h)
    obtain ⟨a2, h⟩ := if_some h
    exact ⟨to_listD (ne_ff a1), fun _ => to_within (ne_ff a2)⟩
  · obtain ⟨a1, h⟩ := if_some (show (if ok1 1 cs gs d1 = false then some (1, 1) else if gs.length = 1 then some (5, 0) else none) = none from h)
    exact ⟨to_within (ne_ff a1), fun z => absurd z (by decide)⟩
  · obtain ⟨a1, h⟩ := if_some (show (if withinD 1 (10 ^ 12) d1 = false then some (2, 1) else if 6 ≤ cs.length then some (4, 3) else none) = none from h)
    exact ⟨to_within (ne_ff a1), fun z => absurd z (by decide)⟩
  · obtain ⟨a1, h⟩ := if_some (show (if ok1 0 cs gs d1 = false then some (0, 1) else if cs.length = 1 then some (5, 0) else none) = none from h)
    exact ⟨to_within (ne_ff a1), fun z => absurd z (by decide)⟩
theorem to_dEd {w : Nat} {d1 d2 : PyData} (h1 : tupOnly d1 = true) (h2 : w < 4 → tupOnly d2 = true) : tupOnly (dEd w d1 d2) = true := by
  unfold dEd
  by_cases h : w < 4
  · rw [if_pos h]
    show (true && (tupOnly d1 && (tupOnly d2 && true))) = true
    rw [h1, h2 h]; rfl
  · rw [if_neg h]
    show (true && (tupOnly d1 && true)) = true
    rw [h1]; rfl
end Pv
namespace Pv
open PySem PySem.Spec PyProof.Rows L2
abbrev sCI : Stmt := inCls (topS 69) 10
theorem scCI : FnScope ["self"] ["self"] (defScope sCI) := ⟨rfl, rfl, rfl, by decide +kernel, rfl, by decide +kernel, by decide +kernel⟩
abbrev sBM : Stmt := inCls (topS 69) 12
theorem scBM : FnScope ["self", "edit"] ["self", "edit"] (defScope sBM) := ⟨rfl, rfl, rfl, by decide +kernel, rfl, by decide +kernel, by decide +kernel⟩
abbrev sBE : Stmt := inCls (topS 69) 11
theorem scBE : FnScope ["self", "edit"] ["self", "edit"] (defScope sBE) := ⟨rfl, rfl, rfl, by decide +kernel, rfl, by decide +kernel, by decide +kernel⟩
abbrev sM0 : Stmt := inCls (topS 69) 1
theorem scM0 : FnScope ["self", "post", "capacity"] ["self", "post", "capacity"] (defScope sM0) := ⟨rfl, rfl, rfl, by decide +kernel, rfl, by decide +kernel, by decide +kernel⟩
abbrev sM1 : Stmt := inCls (topS 69) 2
theorem scM1 : FnScope ["self", "group", "count"] ["self", "group", "count"] (defScope sM1) := ⟨rfl, rfl, rfl, by decide +kernel, rfl, by decide +kernel, by decide +kernel⟩
abbrev sM2 : Stmt := inCls (topS 69) 3
theorem scM2 : FnScope ["self", "group", "posts"] ["self", "group", "posts"] (defScope sM2) := ⟨rfl, rfl, rfl, by decide +kernel, rfl, by decide +kernel, by decide +kernel⟩
abbrev sM3 : Stmt := inCls (topS 69) 4
theorem scM3 : FnScope ["self", "posts", "count"] ["self", "posts", "count"] (defScope sM3) := ⟨rfl, rfl, rfl, by decide +kernel, rfl, by decide +kernel, by decide +kernel⟩
abbrev sM4 : Stmt := inCls (topS 69) 5
theorem scM4 : FnScope ["self", "group"] ["self", "group"] (defScope sM4) := ⟨rfl, rfl, rfl, by decide +kernel, rfl, by decide +kernel, by decide +kernel⟩
abbrev sM5 : Stmt := inCls (topS 69) 6
theorem scM5 : FnScope ["self", "capacity"] ["self", "capacity"] (defScope sM5) := ⟨rfl, rfl, rfl, by decide +kernel, rfl, by decide +kernel, by decide +kernel⟩
abbrev sM6 : Stmt := inCls (topS 69) 7
theorem scM6 : FnScope ["self", "post"] ["self", "post"] (defScope sM6) := ⟨rfl, rfl, rfl, by decide +kernel, rfl, by decide +kernel, by decide +kernel⟩
structure BBx (K : PySem.W.Frag) (mg : Str → Option Value) (C : Addr) : Prop where
  cl : Cls K C
  nS : NoAttr K C "states"
  nM : NoAttr K C "made"
  nP : NoAttr K C "stepping"
  mgC : mg "Bench" = some (.ref C)
  ca : PySem.W.findIn K (.ref C) "__class__" = some (some (.builtin "object.__class__"))
  cn : PySem.W.specialIn K (.builtin "object.__class__") "__get__" = some (some (.builtin "getset_descriptor.__get__"))
  ct : PySem.W.takesIn K (.builtin "object.__class__") = some true
  cm : PySem.W.mroIn K C (.type "object") = some true
  ki : PySem.W.kitOne K (.ref C) (.ref C) = some true
structure BDu (K : PySem.W.Frag) (C : Addr) (m : Str) (f : Addr) : Prop where
  at_ : PySem.W.findIn K (.ref C) m = some (some (.ref f))
  fn : PySem.W.isFn K (.ref f) = true
theorem kSM : ¬ (("states" : Str) = "made") := by decide +kernel
theorem kSP : ¬ (("states" : Str) = "stepping") := by decide +kernel
theorem kMP : ¬ (("made" : Str) = "stepping") := by decide +kernel
def fldsB (S M : Addr) (z : Bool) : List (Str × V) := putF "stepping" (.bl z) (putF "made" (.ref M) (putF "states" (.ref S) []))
theorem fB_states (S M : Addr) (z : Bool) : (fldsB S M z).lookup ("states" : Str) = some (.ref S) := by
  unfold fldsB
  rw [lookup_putF, if_neg kSP, lookup_putF, if_neg kSM, lookup_putF, if_pos rfl]
theorem fB_made (S M : Addr) (z : Bool) : (fldsB S M z).lookup ("made" : Str) = some (.ref M) := by
  unfold fldsB
  rw [lookup_putF, if_neg kMP, lookup_putF, if_pos rfl]
theorem fB_step (S M : Addr) (z : Bool) : (fldsB S M z).lookup ("stepping" : Str) = some (.bl z) := by
  unfold fldsB
  rw [lookup_putF, if_pos rfl]
theorem fB_no (S M : Addr) (z : Bool) {m : Str} (h1 : ¬ m = "states") (h2 : ¬ m = "made") (h3 : ¬ m = "stepping") : (fldsB S M z).lookup m = none := by
  unfold fldsB
  rw [lookup_putF, if_neg h3, lookup_putF, if_neg h2, lookup_putF, if_neg h1]
  rfl
theorem putF_hd (f : Str) (v x : V) (r : List (Str × V)) : putF f v ((f, x) :: r) = (f, v) :: r := by unfold putF; rw [if_pos rfl]
theorem putF_tl {f g : Str} (v x : V) (r : List (Str × V)) (h : ¬ g = f) : putF f v ((g, x) :: r) = (g, x) :: putF f v r := by rw [putF, if_neg h]
theorem fldsB_eq (S M : Addr) (z : Bool) : fldsB S M z = [(("states" : Str), V.ref S), (("made" : Str), V.ref M), (("stepping" : Str), V.bl z)] := by
  unfold fldsB
  have e1 : putF ("states" : Str) (V.ref S) [] = [(("states" : Str), V.ref S)] := rfl
  have e2 : putF ("made" : Str) (V.ref M) [] = [(("made" : Str), V.ref M)] := rfl
  rw [e1, putF_tl _ _ _ kSM, e2, putF_tl _ _ _ kSP, putF_tl _ _ _ kMP]
  rfl
theorem fB_putS (S S' M : Addr) (z : Bool) : putF "states" (.ref S') (fldsB S M z) = fldsB S' M z := by rw [fldsB_eq, fldsB_eq, putF_hd]
theorem fB_putM (S M M' : Addr) (z : Bool) : putF "made" (.ref M') (fldsB S M z) = fldsB S M' z := by rw [fldsB_eq, fldsB_eq, putF_tl _ _ _ kSM, putF_hd]
theorem fB_len (S M : Addr) (z : Bool) : (fldsB S M z).length < 1000 := by rw [fldsB_eq]; show 3 < 1000; decide
/-- the object: its instances and edits -/
structure BnAt (K : PySem.W.Frag) (C : Addr) (H : Hp) (b : Addr) (ins : List Ins) (eds : List PyData) (z : Bool) : Prop where
  ob : ∃ (dx S M : Addr) (sv mv : List V), H b = some (.ins C dx (fldsB S M z)) ∧ SqT K H S sv ∧ SqT K H M mv ∧ DpAll K H sv (ins.map dI2) ∧ DpAll K H mv eds
structure BnOk (ins : List Ins) (eds : List PyData) : Prop where
  l1 : ins.length = eds.length + 1
  l60 : eds.length ≤ 60
  io : ∀ x ∈ ins, InOk x.1 x.2
  to : tupOnlyAll eds = true
theorem to_app : ∀ {l : List PyData} {d : PyData}, tupOnlyAll l = true → tupOnly d = true → tupOnlyAll (l ++ [d]) = true
  | [], d, _, h => by show (tupOnly d && true) = true; rw [h]; rfl
  | x :: l, d, h1, h2 => by
    have h1 : (tupOnly x && tupOnlyAll l) = true := h1
    rw [Bool.and_eq_true] at h1
    show (tupOnly x && tupOnlyAll (l ++ [d])) = true
    rw [h1.1, to_app h1.2 h2]; rfl
theorem to_take : ∀ {l : List PyData} (n : Nat), tupOnlyAll l = true → tupOnlyAll (l.take n) = true
  | l, 0, _ => by rw [List.take_zero]; rfl
  | [], n + 1, _ => rfl
  | x :: l, n + 1, h1 => by
    have h1 : (tupOnly x && tupOnlyAll l) = true := h1
    rw [Bool.and_eq_true] at h1
    show (tupOnly x && tupOnlyAll (l.take n)) = true
    rw [h1.1, to_take n h1.2]; rfl
theorem to_ins : ∀ l : List Ins, tupOnlyAll (l.map dI2) = true
  | [] => rfl
  | x :: l => by
    show (tupOnly (dInst x.1 x.2) && tupOnlyAll (l.map dI2)) = true
    rw [to_dInst, to_ins l]; rfl
theorem BnAt.keep {K : PySem.W.Frag} {C : Addr} {H H' : Hp} {b : Addr} {ins : List Ins} {eds : List PyData} {z : Bool} (h : BnAt K C H b ins eds z) (hb : ∀ o, H b = some o → H' b = some o) (tk : TupK H H') (te : tupOnlyAll eds = true) : BnAt K C H' b ins eds z := by
  obtain ⟨dx, S, M, sv, mv, h1, h2, h3, h4, h5⟩ := h.ob
  exact ⟨dx, S, M, sv, mv, hb _ h1, tk.sq h2, tk.sq h3, tk.dpAll _ _ (to_ins _) h4, tk.dpAll _ _ te h5⟩
theorem BnAt.same {K : PySem.W.Frag} {C : Addr} {H H' : Hp} {b : Addr} {ins : List Ins} {eds : List PyData} {z : Bool} (h : BnAt K C H b ins eds z) (s : Same H H') (te : tupOnlyAll eds = true) : BnAt K C H' b ins eds z := h.keep (fun _ e => s _ _ e) (.of s) te
theorem tk_ins {H : Hp} {b C dx : Addr} {fs : List (Str × V)} {o : HO} (h : H b = some (.ins C dx fs)) : TupK H (upd H b o) := by
  intro x xs
  refine ⟨fun e => ?_, fun u e => ?_⟩
  · rw [upd_ne (fun q => by rw [q, h] at e; cases e)]; exact e
  · rw [upd_ne (fun q => by rw [q, h] at e; cases e)]; exact e
theorem ex_put {H : Hp} {b : Addr} {o : HO} : Ex1 b H (upd H b o) := fun a z e n => by rw [upd_ne n]; exact e
def lastI (ins : List Ins) : Ins := ins.getD (ins.length - 1) ([], [])
theorem last_at {K : PySem.W.Frag} {H : Hp} {sv : List V} {ins : List Ins} (h : DpAll K H sv (ins.map dI2)) (hp : 0 < ins.length) : ∃ v, atI sv (-1) = some v ∧ Dp K H v (dI2 (lastI ins)) := by
  have hl := DpAll.len h
  rw [List.length_map] at hl
  have h1 : sv[sv.length - 1]? = some (sv[sv.length - 1]'(by omega)) := List.getElem?_eq_getElem (by omega)
  obtain ⟨d, hd, hx⟩ := DpAll.at h h1
  rw [List.getElem?_map] at hd
  obtain ⟨x, hx', rfl⟩ := Option.map_eq_some_iff.mp hd
  have e : lastI ins = x := by unfold lastI; rw [List.getD_eq_getElem?_getD, ← hl, hx']; rfl
  refine ⟨_, ?_, by rw [e]; exact hx⟩
  unfold atI ixN
  rw [if_neg (by omega), if_pos (by omega), show ((-1 : Int) + (sv.length : Nat)).toNat = sv.length - 1 by omega]
  exact h1
theorem last_in {ins : List Ins} (hp : 0 < ins.length) : lastI ins ∈ ins := by
  unfold lastI; rw [List.getD_eq_getElem?_getD, List.getElem?_eq_getElem (by omega)]; exact List.getElem_mem _
theorem sl_anyB {K : PySem.W.Frag} {H : Hp} {a : Addr} {xs : List V} {lo hi : Option Int} (hP : SqT K H a xs) {Q : VK} (h : ∀ (H' : Hp) (b : Addr), Same H H' → SqT K H' b (cutV xs lo hi) → Q (.ref b) H') : rSlA K (.ref a) lo hi H Q := by
  refine ⟨a, _, rfl, hP, fun hw => ?_, fun _ p np => h _ p (sameNew np) (SqT.of upd_same)⟩
  refine h H a (Same.refl _) ?_
  have e : cutV xs lo hi = xs := by unfold cutV; rw [hw.1, hw.2, List.drop_zero, Nat.sub_zero, List.take_length]
  rw [e]; exact hP
def spCI (K : PySem.W.Frag) (C cBu : Addr) : Sp := fun vs H Q E => ∃ (b dx S M : Addr) (z : Bool), vs = [.ref b] ∧ H b = some (.ins C dx (fldsB S M z)) ∧ (z = true → E (.ref cBu) none H) ∧ (z = false → Q .non H)
/-- an edit as the program sees it -/
structure EdIn (K : PySem.W.Frag) (H : Hp) (st r ed : Addr) (w : Nat) (v1 v2 : V) (d1 d2 : PyData) : Prop where
  w7 : w < 7
  sq : SqT K H ed (.str (edW w) :: edArgs w v1 v2)
  h1 : Dq K st r H v1 d1
  h2 : w < 4 → Dq K st r H v2 d2
def spBM (K : PySem.W.Frag) (C cTE a b c d e f : Addr) : Sp := fun vs H Q E => ∃ (st r ob ed : Addr) (w : Nat) (v1 v2 : V) (d1 d2 : PyData) (ins : List Ins) (eds : List PyData) (z : Bool), vs = [.ref ob, .ref ed] ∧ BnAt K C H ob ins eds z ∧ BnOk ins eds ∧ EdIn K H st r ed w v1 v2 d1 d2 ∧
  (eds.length = 60 → E (.ref cTE) none H) ∧
  (eds.length < 60 → ∀ cp, edFail (lastI ins) w d1 d2 = some cp → ∀ H', Same H H' → FailW (clE a b c d e f) cp v1 v2 H' E) ∧
  (eds.length < 60 → edFail (lastI ins) w d1 d2 = none → ∀ H', BnAt K C H' ob (ins ++ [edRes (lastI ins) w d1 d2]) (eds ++ [dEd w d1 d2]) z → BnOk (ins ++ [edRes (lastI ins) w d1 d2]) (eds ++ [dEd w d1 d2]) → Ex1 ob H H' → Q (.int ((eds.length + 1 : Nat))) H')
def spBE (K : PySem.W.Frag) (C cBu cTE a b c d e f : Addr) : Sp := fun vs H Q E => ∃ (st r ob ed : Addr) (w : Nat) (v1 v2 : V) (d1 d2 : PyData) (ins : List Ins) (eds : List PyData) (z : Bool), vs = [.ref ob, .ref ed] ∧ BnAt K C H ob ins eds z ∧ BnOk ins eds ∧ EdIn K H st r ed w v1 v2 d1 d2 ∧
  (z = true → E (.ref cBu) none H) ∧
  (z = false → eds.length = 60 → E (.ref cTE) none H) ∧
  (z = false → eds.length < 60 → ∀ cp, edFail (lastI ins) w d1 d2 = some cp → ∀ H', Same H H' → FailW (clE a b c d e f) cp v1 v2 H' E) ∧
  (z = false → eds.length < 60 → edFail (lastI ins) w d1 d2 = none → ∀ H', BnAt K C H' ob (ins ++ [edRes (lastI ins) w d1 d2]) (eds ++ [dEd w d1 d2]) z → BnOk (ins ++ [edRes (lastI ins) w d1 d2]) (eds ++ [dEd w d1 d2]) → Ex1 ob H H' → Q (.int ((eds.length + 1 : Nat))) H')
def spMm (K : PySem.W.Frag) (C cBu cTE a b c d e f : Addr) (w : Nat) : Sp := fun vs H Q E => ∃ (st r ob : Addr) (v1 v2 : V) (d1 d2 : PyData) (ins : List Ins) (eds : List PyData) (z : Bool), vs = .ref ob :: edArgs w v1 v2 ∧ BnAt K C H ob ins eds z ∧ BnOk ins eds ∧ Dq K st r H v1 d1 ∧ (w < 4 → Dq K st r H v2 d2) ∧
  (z = true → ∀ H', Same H H' → E (.ref cBu) none H') ∧
  (z = false → eds.length = 60 → ∀ H', Same H H' → E (.ref cTE) none H') ∧
  (z = false → eds.length < 60 → ∀ cp, edFail (lastI ins) w d1 d2 = some cp → ∀ H', Same H H' → FailW (clE a b c d e f) cp v1 v2 H' E) ∧
  (z = false → eds.length < 60 → edFail (lastI ins) w d1 d2 = none → ∀ H', BnAt K C H' ob (ins ++ [edRes (lastI ins) w d1 d2]) (eds ++ [dEd w d1 d2]) z → BnOk (ins ++ [edRes (lastI ins) w d1 d2]) (eds ++ [dEd w d1 d2]) → Ex1 ob H H' → Q (.int ((eds.length + 1 : Nat))) H')
def spBU (K : PySem.W.Frag) (C cBu cNU : Addr) : Sp := fun vs H Q E => ∃ (ob : Addr) (ins : List Ins) (eds : List PyData) (z : Bool), vs = [.ref ob] ∧ BnAt K C H ob ins eds z ∧ BnOk ins eds ∧ (z = true → E (.ref cBu) none H) ∧ (z = false → eds = [] → E (.ref cNU) none H) ∧
  (z = false → eds ≠ [] → ∀ H', BnAt K C H' ob (ins.take (ins.length - 1)) (eds.take (eds.length - 1)) z → BnOk (ins.take (ins.length - 1)) (eds.take (eds.length - 1)) → Ex1 ob H H' → Q (.int ((eds.length - 1 : Nat))) H')
section
variable {P : Program} {w : World} {K : PySem.W.Frag} {mg : Str → Option Value} {base : Heap}
set_option maxHeartbeats 16000000 in
theorem ok_CI {f : Addr} {fd : FuncData} {cB : Addr} (T : BBx K mg cB) (F : Fun K "check_idle" "Bench.check_idle" sCI f fd)
    {cBu : Addr} (gBu : mg "Busy" = some (.ref cBu)) (IBu : IsC K cBu) (xBu : PySem.W.excIn K cBu VEbm "ValueError.__new__" = true)
     :
    FnOk P w K mg base (L2.CX P w) 1 f fd ["self"] (spCI K cB cBu) := by
  refine F.okX scCI (fun vs H Q E h => ?_) (fun cdv A outer s H vs Q E hr h => ?_)
  · obtain ⟨b, dx, S, M, z, rfl, _⟩ := h; rfl
  · obtain ⟨b, dx, S, M, z, rfl, hH, q1, q⟩ := h
    refine ⟨_, pss_one (ps_if (pt_val (pe_fld (pv 0) rfl))
        (pss_one (ps_raise rfl (takes_of rfl rfl rfl rfl) (pmk_own0 PySem.F.excBase_ValueError xBu gBu IBu.kp IBu.raises (by rfl)))) pss_nil), ?_⟩
    refine ⟨.ref b, rfl, b, cB, dx, _, .bl z, rfl, hH, T.cl, T.nP, fB_step S M z, _, rfl, ?_⟩
    cases z with
    | true => exact iteT (q1 rfl)
    | false => exact iteF (q rfl)
set_option maxHeartbeats 16000000 in
theorem ok_BM {cNP cNG cBN cBL cTM cLO : Addr} {f fEe : Addr} {fd fdEe : FuncData} {cB : Addr} (T : BBx K mg cB) (F : Fun K "make" "Bench.make" sBM f fd)
    (FEe : Fun K "edited" "edited" sEe fEe fdEe) (bEe : Binds K fdEe ["instance", "edit"] []) (gEe : mg "edited" = some (.ref fEe)) (GEe : FnOk P w K mg base (CX P w) 5 fEe fdEe ["instance", "edit"] (spEe K cNP cNG cBN cBL cTM cLO))
    {cTE : Addr} (gTE : mg "TooManyEdits" = some (.ref cTE)) (ITE : IsC K cTE) (xTE : PySem.W.excIn K cTE VEbm "ValueError.__new__" = true)
    {uEDITS : Value} (vEDITS : mg "EDITS" = some uEDITS) (rEDITS : RelV (.int 60) uEDITS)
    (m_len : mg "len" = none) :
    FnOk P w K mg base (L2.CX P w) 6 f fd ["self", "edit"] (spBM K cB cTE cNP cNG cBN cBL cTM cLO) := by
  refine F.okX scBM (fun vs H Q E h => ?_) (fun cdv A outer s H vs Q E hr h => ?_)
  · obtain ⟨st, r, ob, ed, w, v1, v2, d1, d2, ins, eds, z, rfl, _⟩ := h; rfl
  · obtain ⟨st, r, ob, ed, w, v1, v2, d1, d2, ins, eds, z, rfl, hB, hK, hE, q⟩ := h
    refine ⟨_, pss_cons (ps_if (pt_cmpR op_ge (pe_callB call_lenQ (by rfl) m_len PySem.boot_len (pa_cons (pe_fld (pv 0) rfl) pa_nil)) (pe_glob (by rfl) vEDITS rEDITS) (nomark _))
        (pss_one (ps_raise rfl (takes_of rfl rfl rfl rfl) (pmk_own0 PySem.F.excBase_ValueError xTE gTE ITE.kp ITE.raises (by rfl)))) pss_nil)
      (pss_cons (ps_fld (pv 0) (pe_op op_catA (pe_fld (pv 0) rfl) (pe_tup (pa_cons (pe_callS GEe (hr.mono (by omega)) rfl gEe FEe.kp bEe (fun σ => passAt (takes_of rfl rfl rfl rfl) σ) (pa_cons (pe_ix ix_tup (pe_fld (pv 0) rfl) (pe_un un_neg (pe_int)) (fun _ _ => rfl)) (pa_cons (pv 1) pa_nil))) pa_nil))) rfl)
      (pss_cons (ps_fld (pv 0) (pe_op op_catA (pe_fld (pv 0) rfl) (pe_tup (pa_cons (pv 1) pa_nil))) rfl)
      (pss_one (ps_ret (pe_callB call_lenQ (by rfl) m_len PySem.boot_len (pa_cons (pe_fld (pv 0) rfl) pa_nil)))))), ?_⟩
    obtain ⟨q1, q2, q3⟩ := q
    obtain ⟨dx, S, M, sv, mv, hO, hS, hM, dS, dM⟩ := hB.ob
    have lm := DpAll.len dM
    have ls := DpAll.len dS
    rw [List.length_map] at ls
    have l60 := hK.l60
    have l1 := hK.l1
    refine ⟨.ref ob, rfl, ob, cB, dx, _, .ref M, rfl, hO, T.cl, T.nM, fB_made S M z, M, _, rfl, .inr hM, _, _, rfl, rfl, _, rfl, ite2 (fun h1 => ?_) (fun h1 => ?_)⟩
    · have h1 := of_decide_eq_true h1
      exact q1 (by omega)
    have h1 := of_decide_eq_false (Bool.eq_false_iff.mpr h1)
    have hlt : eds.length < 60 := by omega
    obtain ⟨lv, hlv, hlD⟩ := last_at dS (by omega)
    obtain ⟨la, rfl⟩ : ∃ la, lv = .ref la := by
      unfold dI2 at hlD
      obtain ⟨a, c, g, xs, e, _⟩ := inst_open hlD
      exact ⟨a, e⟩
    have hio := hK.io _ (last_in (ins := ins) (by omega))
    refine ⟨.ref ob, rfl, ob, cB, dx, _, .ref S, rfl, hO, T.cl, T.nS, fB_states S M z, ?_⟩
    refine ⟨.ref ob, rfl, ob, cB, dx, _, .ref S, rfl, hO, T.cl, T.nS, fB_states S M z, _, rfl, S, _, _, .ref la, rfl, rfl, hS, hlv, .ref ed, rfl, ?_⟩
    refine ⟨st, r, la, ed, w, v1, v2, lastI ins, d1, d2, rfl, hE.w7, hE.sq, hlD, hio.ok, hE.h1, hE.h2, fun H1 s1 => ⟨fun cp hcp => q2 hlt cp hcp H1 s1, fun hn p hp => ?_⟩⟩
    have hio2 := ed_ok hE.w7 hio hn
    obtain ⟨ta1, ta2⟩ := ed_args hE.w7 hn
    have td := to_dEd ta1 ta2
    refine ⟨(show (1 : Nat) ≤ sizeLine by decide), fun T1 nT1 => ?_⟩
    have sT := sameNew (o := .tup [.ref p]) nT1
    refine cat_eq ((TupK.of (s1.trans sT)).sq hS) (SqT.of upd_same) (Nat.le_of_lt (small (by rw [List.length_singleton]; omega))) fun H2 S2 s2 hS2 => ?_
    have s12 := s1.trans (sT.trans s2)
    have hO2 := s12 _ _ hO
    refine ⟨.ref ob, rfl, ob, cB, dx, _, rfl, hO2, T.cl, T.nS, fB_len S M z, ?_⟩
    rw [fB_putS]
    have tk3 : TupK H2 (upd H2 ob (.ins cB dx (fldsB S2 M z))) := tk_ins hO2
    have hO3 : (upd H2 ob (.ins cB dx (fldsB S2 M z))) ob = some (.ins cB dx (fldsB S2 M z)) := upd_same
    have x3 : Ex1 ob H (upd H2 ob (.ins cB dx (fldsB S2 M z))) := (Ex1.of s12).trans ex_put
    have hS3 := tk3.sq hS2
    have dS3 : DpAll K (upd H2 ob (.ins cB dx (fldsB S2 M z))) (sv ++ [.ref p]) ((ins ++ [edRes (lastI ins) w d1 d2]).map dI2) := by
      rw [List.map_append]
      exact dpAll_app (((TupK.of s12).trans tk3).dpAll _ _ (to_ins _) dS) (.cons (((TupK.of (sT.trans s2)).trans tk3).dp _ _ (to_dInst _ _) hp) .nil)
    have tkA : TupK H (upd H2 ob (.ins cB dx (fldsB S2 M z))) := (TupK.of s12).trans tk3
    generalize upd H2 ob (.ins cB dx (fldsB S2 M z)) = H3 at hO3 x3 hS3 dS3 tkA ⊢
    have hM3 := tkA.sq hM
    refine ⟨.ref ob, rfl, ob, cB, dx, _, .ref M, rfl, hO3, T.cl, T.nM, fB_made S2 M z, .ref ed, rfl, (show (1 : Nat) ≤ sizeLine by decide), fun T2 nT2 => ?_⟩
    have sT2 := sameNew (o := .tup [.ref ed]) nT2
    refine cat_eq ((TupK.of sT2).sq hM3) (SqT.of upd_same) (Nat.le_of_lt (small (by rw [List.length_singleton]; omega))) fun H4 M2 s4 hM4 => ?_
    have s34 := sT2.trans s4
    have hO4 := s34 _ _ hO3
    refine ⟨.ref ob, rfl, ob, cB, dx, _, rfl, hO4, T.cl, T.nM, fB_len S2 M z, ?_⟩
    rw [fB_putM]
    have tk5 : TupK H4 (upd H4 ob (.ins cB dx (fldsB S2 M2 z))) := tk_ins hO4
    have hO5 : (upd H4 ob (.ins cB dx (fldsB S2 M2 z))) ob = some (.ins cB dx (fldsB S2 M2 z)) := upd_same
    have x5 : Ex1 ob H (upd H4 ob (.ins cB dx (fldsB S2 M2 z))) := x3.trans ((Ex1.of s34).trans ex_put)
    have tkB : TupK H3 (upd H4 ob (.ins cB dx (fldsB S2 M2 z))) := (TupK.of s34).trans tk5
    have hM5 := tk5.sq hM4
    have hd : Dp K H (.ref ed) (dEd w d1 d2) := by
      refine .tup hE.sq (.cons (.str _) ?_)
      unfold edArgs
      by_cases h4 : w < 4
      · rw [if_pos h4, if_pos h4]
        exact .cons (Dq.to_dp ta1 hE.h1) (.cons (Dq.to_dp (ta2 h4) (hE.h2 h4)) .nil)
      · rw [if_neg h4, if_neg h4]
        exact .cons (Dq.to_dp ta1 hE.h1) .nil
    have dM5 : DpAll K (upd H4 ob (.ins cB dx (fldsB S2 M2 z))) (mv ++ [.ref ed]) (eds ++ [dEd w d1 d2]) :=
      dpAll_app ((tkA.trans tkB).dpAll _ _ hK.to dM) (.cons ((tkA.trans tkB).dp _ _ td hd) .nil)
    have hS5 := tkB.sq hS3
    have dS5 := tkB.dpAll _ _ (to_ins _) dS3
    generalize upd H4 ob (.ins cB dx (fldsB S2 M2 z)) = H5 at hO5 x5 hM5 dM5 hS5 dS5 ⊢
    refine ⟨.ref ob, rfl, ob, cB, dx, _, .ref M2, rfl, hO5, T.cl, T.nM, fB_made S2 M2 z, M2, _, rfl, .inr hM5, ?_⟩
    rw [show (((mv ++ [V.ref ed]).length : Nat) : Int) = ((eds.length + 1 : Nat) : Int) by rw [List.length_append, List.length_singleton, lm]]
    refine q3 hlt hn H5 ⟨dx, S2, M2, _, _, hO5, hS5, hM5, dS5, dM5⟩ ⟨by simp [l1], by simp; omega, fun y hy => ?_, ?_⟩ x5
    · rcases List.mem_append.mp hy with h | h
      · exact hK.io y h
      · rw [List.mem_singleton.mp h]; exact hio2
    · exact to_app hK.to td
set_option maxHeartbeats 16000000 in
theorem ok_BE {cNP cNG cBN cBL cTM cLO : Addr} {cBu cTE : Addr} {f fCI fBM : Addr} {fd fdCI fdBM : FuncData} {cB : Addr} (T : BBx K mg cB) (F : Fun K "edit" "Bench.edit" sBE f fd)
    (FCI : Fun K "check_idle" "Bench.check_idle" sCI fCI fdCI) (bCI : Binds K fdCI ["self"] []) (mCI : Meth K cB "check_idle" fCI) (GCI : FnOk P w K mg base (CX P w) 1 fCI fdCI ["self"] (spCI K cB cBu))
    (FBM : Fun K "make" "Bench.make" sBM fBM fdBM) (bBM : Binds K fdBM ["self", "edit"] []) (mBM : Meth K cB "make" fBM) (GBM : FnOk P w K mg base (CX P w) 6 fBM fdBM ["self", "edit"] (spBM K cB cTE cNP cNG cBN cBL cTM cLO))
     :
    FnOk P w K mg base (L2.CX P w) 7 f fd ["self", "edit"] (spBE K cB cBu cTE cNP cNG cBN cBL cTM cLO) := by
  refine F.okX scBE (fun vs H Q E h => ?_) (fun cdv A outer s H vs Q E hr h => ?_)
  · obtain ⟨st, r, ob, ed, w, v1, v2, d1, d2, ins, eds, z, rfl, _⟩ := h; rfl
  · obtain ⟨st, r, ob, ed, w, v1, v2, d1, d2, ins, eds, z, rfl, hB, hK, hE, q⟩ := h
    refine ⟨_, pss_cons (ps_expr (pe_methW0 (pv 0) T.cl mCI GCI (hr.mono (by omega)) bCI (fun σ => passAt (takes_of rfl rfl rfl rfl) σ)))
      (pss_one (ps_ret (pe_methW (pv 0) T.cl mBM GBM (hr.mono (by omega)) bBM (fun σ => passAt (takes_of rfl rfl rfl rfl) σ) (pa_cons (pv 1) pa_nil)))), ?_⟩
    obtain ⟨q1, q2, q3, q4⟩ := q
    obtain ⟨dx, S, M, sv, mv, hO, _⟩ := hB.ob
    refine ⟨.ref ob, rfl, ob, dx, _, rfl, hO, fB_no S M z (by decide +kernel) (by decide +kernel) (by decide +kernel), ob, dx, S, M, z, rfl, hO, q1, fun hz => ?_⟩
    exact ⟨.ref ob, rfl, ob, dx, _, rfl, hO, fB_no S M z (by decide +kernel) (by decide +kernel) (by decide +kernel), .ref ed, rfl, st, r, ob, ed, w, v1, v2, d1, d2, ins, eds, z, rfl, hB, hK, hE, q2 hz, q3 hz, q4 hz⟩
set_option maxHeartbeats 16000000 in
theorem ok_M0 {cNP cNG cBN cBL cTM cLO : Addr} {cBu cTE : Addr} {f fBE : Addr} {fd fdBE : FuncData} {cB : Addr} (T : BBx K mg cB) (F : Fun K "set_capacity" "Bench.set_capacity" sM0 f fd)
    (FBE : Fun K "edit" "Bench.edit" sBE fBE fdBE) (bBE : Binds K fdBE ["self", "edit"] []) (mBE : Meth K cB "edit" fBE) (GBE : FnOk P w K mg base (CX P w) 7 fBE fdBE ["self", "edit"] (spBE K cB cBu cTE cNP cNG cBN cBL cTM cLO))
     :
    FnOk P w K mg base (L2.CX P w) 8 f fd ["self", "post", "capacity"] (spMm K cB cBu cTE cNP cNG cBN cBL cTM cLO 0) := by
  refine F.okX scM0 (fun vs H Q E h => ?_) (fun cdv A outer s H vs Q E hr h => ?_)
  · obtain ⟨st, r, ob, v1, v2, d1, d2, ins, eds, z, rfl, _⟩ := h; rfl
  · obtain ⟨st, r, ob, v1, v2, d1, d2, ins, eds, z, rfl, hB, hK, h1, h2, q⟩ := h
    refine ⟨_, pss_one (ps_ret (pe_methW (pv 0) T.cl mBE GBE (hr.mono (by omega)) bBE (fun σ => passAt (takes_of rfl rfl rfl rfl) σ) (pa_cons (pe_tup (pa_cons (pe_str) (pa_cons (pv 1) (pa_cons (pv 2) pa_nil)))) pa_nil))), ?_⟩
    obtain ⟨q1, q2, q3, q4⟩ := q
    obtain ⟨dx, S, M, sv, mv, hO, _⟩ := hB.ob
    refine ⟨.ref ob, rfl, ob, dx, _, rfl, hO, fB_no S M z (by decide +kernel) (by decide +kernel) (by decide +kernel), v1, rfl, v2, rfl, (show (3 : Nat) ≤ sizeLine by decide), fun T nT => ?_⟩
    have sT := sameNew (o := .tup [.str "set_capacity", v1, v2]) nT
    exact ⟨st, r, ob, T, 0, v1, v2, d1, d2, ins, eds, z, rfl, hB.same sT hK.to, hK, ⟨by decide, SqT.of upd_same, h1.lasts (.of sT), fun h => (h2 h).lasts (.of sT)⟩, fun hz => q1 hz _ sT, fun hz hl => q2 hz hl _ sT, fun hz hl cp hc H' s' => q3 hz hl cp hc H' (sT.trans s'), fun hz hl hn H' hB' hK' x' => q4 hz hl hn H' hB' hK' ((Ex1.of sT).trans x')⟩
set_option maxHeartbeats 16000000 in
theorem ok_M1 {cNP cNG cBN cBL cTM cLO : Addr} {cBu cTE : Addr} {f fBE : Addr} {fd fdBE : FuncData} {cB : Addr} (T : BBx K mg cB) (F : Fun K "set_count" "Bench.set_count" sM1 f fd)
    (FBE : Fun K "edit" "Bench.edit" sBE fBE fdBE) (bBE : Binds K fdBE ["self", "edit"] []) (mBE : Meth K cB "edit" fBE) (GBE : FnOk P w K mg base (CX P w) 7 fBE fdBE ["self", "edit"] (spBE K cB cBu cTE cNP cNG cBN cBL cTM cLO))
     :
    FnOk P w K mg base (L2.CX P w) 8 f fd ["self", "group", "count"] (spMm K cB cBu cTE cNP cNG cBN cBL cTM cLO 1) := by
  refine F.okX scM1 (fun vs H Q E h => ?_) (fun cdv A outer s H vs Q E hr h => ?_)
  · obtain ⟨st, r, ob, v1, v2, d1, d2, ins, eds, z, rfl, _⟩ := h; rfl
  · obtain ⟨st, r, ob, v1, v2, d1, d2, ins, eds, z, rfl, hB, hK, h1, h2, q⟩ := h
    refine ⟨_, pss_one (ps_ret (pe_methW (pv 0) T.cl mBE GBE (hr.mono (by omega)) bBE (fun σ => passAt (takes_of rfl rfl rfl rfl) σ) (pa_cons (pe_tup (pa_cons (pe_str) (pa_cons (pv 1) (pa_cons (pv 2) pa_nil)))) pa_nil))), ?_⟩
    obtain ⟨q1, q2, q3, q4⟩ := q
    obtain ⟨dx, S, M, sv, mv, hO, _⟩ := hB.ob
    refine ⟨.ref ob, rfl, ob, dx, _, rfl, hO, fB_no S M z (by decide +kernel) (by decide +kernel) (by decide +kernel), v1, rfl, v2, rfl, (show (3 : Nat) ≤ sizeLine by decide), fun T nT => ?_⟩
    have sT := sameNew (o := .tup [.str "set_count", v1, v2]) nT
    exact ⟨st, r, ob, T, 1, v1, v2, d1, d2, ins, eds, z, rfl, hB.same sT hK.to, hK, ⟨by decide, SqT.of upd_same, h1.lasts (.of sT), fun h => (h2 h).lasts (.of sT)⟩, fun hz => q1 hz _ sT, fun hz hl => q2 hz hl _ sT, fun hz hl cp hc H' s' => q3 hz hl cp hc H' (sT.trans s'), fun hz hl hn H' hB' hK' x' => q4 hz hl hn H' hB' hK' ((Ex1.of sT).trans x')⟩
set_option maxHeartbeats 16000000 in
theorem ok_M2 {cNP cNG cBN cBL cTM cLO : Addr} {cBu cTE : Addr} {f fBE : Addr} {fd fdBE : FuncData} {cB : Addr} (T : BBx K mg cB) (F : Fun K "set_list" "Bench.set_list" sM2 f fd)
    (FBE : Fun K "edit" "Bench.edit" sBE fBE fdBE) (bBE : Binds K fdBE ["self", "edit"] []) (mBE : Meth K cB "edit" fBE) (GBE : FnOk P w K mg base (CX P w) 7 fBE fdBE ["self", "edit"] (spBE K cB cBu cTE cNP cNG cBN cBL cTM cLO))
     :
    FnOk P w K mg base (L2.CX P w) 8 f fd ["self", "group", "posts"] (spMm K cB cBu cTE cNP cNG cBN cBL cTM cLO 2) := by
  refine F.okX scM2 (fun vs H Q E h => ?_) (fun cdv A outer s H vs Q E hr h => ?_)
  · obtain ⟨st, r, ob, v1, v2, d1, d2, ins, eds, z, rfl, _⟩ := h; rfl
  · obtain ⟨st, r, ob, v1, v2, d1, d2, ins, eds, z, rfl, hB, hK, h1, h2, q⟩ := h
    refine ⟨_, pss_one (ps_ret (pe_methW (pv 0) T.cl mBE GBE (hr.mono (by omega)) bBE (fun σ => passAt (takes_of rfl rfl rfl rfl) σ) (pa_cons (pe_tup (pa_cons (pe_str) (pa_cons (pv 1) (pa_cons (pv 2) pa_nil)))) pa_nil))), ?_⟩
    obtain ⟨q1, q2, q3, q4⟩ := q
    obtain ⟨dx, S, M, sv, mv, hO, _⟩ := hB.ob
    refine ⟨.ref ob, rfl, ob, dx, _, rfl, hO, fB_no S M z (by decide +kernel) (by decide +kernel) (by decide +kernel), v1, rfl, v2, rfl, (show (3 : Nat) ≤ sizeLine by decide), fun T nT => ?_⟩
    have sT := sameNew (o := .tup [.str "set_list", v1, v2]) nT
    exact ⟨st, r, ob, T, 2, v1, v2, d1, d2, ins, eds, z, rfl, hB.same sT hK.to, hK, ⟨by decide, SqT.of upd_same, h1.lasts (.of sT), fun h => (h2 h).lasts (.of sT)⟩, fun hz => q1 hz _ sT, fun hz hl => q2 hz hl _ sT, fun hz hl cp hc H' s' => q3 hz hl cp hc H' (sT.trans s'), fun hz hl hn H' hB' hK' x' => q4 hz hl hn H' hB' hK' ((Ex1.of sT).trans x')⟩
set_option maxHeartbeats 16000000 in
theorem ok_M3 {cNP cNG cBN cBL cTM cLO : Addr} {cBu cTE : Addr} {f fBE : Addr} {fd fdBE : FuncData} {cB : Addr} (T : BBx K mg cB) (F : Fun K "add_group" "Bench.add_group" sM3 f fd)
    (FBE : Fun K "edit" "Bench.edit" sBE fBE fdBE) (bBE : Binds K fdBE ["self", "edit"] []) (mBE : Meth K cB "edit" fBE) (GBE : FnOk P w K mg base (CX P w) 7 fBE fdBE ["self", "edit"] (spBE K cB cBu cTE cNP cNG cBN cBL cTM cLO))
     :
    FnOk P w K mg base (L2.CX P w) 8 f fd ["self", "posts", "count"] (spMm K cB cBu cTE cNP cNG cBN cBL cTM cLO 3) := by
  refine F.okX scM3 (fun vs H Q E h => ?_) (fun cdv A outer s H vs Q E hr h => ?_)
  · obtain ⟨st, r, ob, v1, v2, d1, d2, ins, eds, z, rfl, _⟩ := h; rfl
  · obtain ⟨st, r, ob, v1, v2, d1, d2, ins, eds, z, rfl, hB, hK, h1, h2, q⟩ := h
    refine ⟨_, pss_one (ps_ret (pe_methW (pv 0) T.cl mBE GBE (hr.mono (by omega)) bBE (fun σ => passAt (takes_of rfl rfl rfl rfl) σ) (pa_cons (pe_tup (pa_cons (pe_str) (pa_cons (pv 1) (pa_cons (pv 2) pa_nil)))) pa_nil))), ?_⟩
    obtain ⟨q1, q2, q3, q4⟩ := q
    obtain ⟨dx, S, M, sv, mv, hO, _⟩ := hB.ob
    refine ⟨.ref ob, rfl, ob, dx, _, rfl, hO, fB_no S M z (by decide +kernel) (by decide +kernel) (by decide +kernel), v1, rfl, v2, rfl, (show (3 : Nat) ≤ sizeLine by decide), fun T nT => ?_⟩
    have sT := sameNew (o := .tup [.str "add_group", v1, v2]) nT
    exact ⟨st, r, ob, T, 3, v1, v2, d1, d2, ins, eds, z, rfl, hB.same sT hK.to, hK, ⟨by decide, SqT.of upd_same, h1.lasts (.of sT), fun h => (h2 h).lasts (.of sT)⟩, fun hz => q1 hz _ sT, fun hz hl => q2 hz hl _ sT, fun hz hl cp hc H' s' => q3 hz hl cp hc H' (sT.trans s'), fun hz hl hn H' hB' hK' x' => q4 hz hl hn H' hB' hK' ((Ex1.of sT).trans x')⟩
set_option maxHeartbeats 16000000 in
theorem ok_M4 {cNP cNG cBN cBL cTM cLO : Addr} {cBu cTE : Addr} {f fBE : Addr} {fd fdBE : FuncData} {cB : Addr} (T : BBx K mg cB) (F : Fun K "remove_group" "Bench.remove_group" sM4 f fd)
    (FBE : Fun K "edit" "Bench.edit" sBE fBE fdBE) (bBE : Binds K fdBE ["self", "edit"] []) (mBE : Meth K cB "edit" fBE) (GBE : FnOk P w K mg base (CX P w) 7 fBE fdBE ["self", "edit"] (spBE K cB cBu cTE cNP cNG cBN cBL cTM cLO))
     :
    FnOk P w K mg base (L2.CX P w) 8 f fd ["self", "group"] (spMm K cB cBu cTE cNP cNG cBN cBL cTM cLO 4) := by
  refine F.okX scM4 (fun vs H Q E h => ?_) (fun cdv A outer s H vs Q E hr h => ?_)
  · obtain ⟨st, r, ob, v1, v2, d1, d2, ins, eds, z, rfl, _⟩ := h; rfl
  · obtain ⟨st, r, ob, v1, v2, d1, d2, ins, eds, z, rfl, hB, hK, h1, h2, q⟩ := h
    refine ⟨_, pss_one (ps_ret (pe_methW (pv 0) T.cl mBE GBE (hr.mono (by omega)) bBE (fun σ => passAt (takes_of rfl rfl rfl rfl) σ) (pa_cons (pe_tup (pa_cons (pe_str) (pa_cons (pv 1) pa_nil))) pa_nil))), ?_⟩
    obtain ⟨q1, q2, q3, q4⟩ := q
    obtain ⟨dx, S, M, sv, mv, hO, _⟩ := hB.ob
    refine ⟨.ref ob, rfl, ob, dx, _, rfl, hO, fB_no S M z (by decide +kernel) (by decide +kernel) (by decide +kernel), v1, rfl, (show (2 : Nat) ≤ sizeLine by decide), fun T nT => ?_⟩
    have sT := sameNew (o := .tup [.str "remove_group", v1]) nT
    exact ⟨st, r, ob, T, 4, v1, v2, d1, d2, ins, eds, z, rfl, hB.same sT hK.to, hK, ⟨by decide, SqT.of upd_same, h1.lasts (.of sT), fun h => (h2 h).lasts (.of sT)⟩, fun hz => q1 hz _ sT, fun hz hl => q2 hz hl _ sT, fun hz hl cp hc H' s' => q3 hz hl cp hc H' (sT.trans s'), fun hz hl hn H' hB' hK' x' => q4 hz hl hn H' hB' hK' ((Ex1.of sT).trans x')⟩
set_option maxHeartbeats 16000000 in
theorem ok_M5 {cNP cNG cBN cBL cTM cLO : Addr} {cBu cTE : Addr} {f fBE : Addr} {fd fdBE : FuncData} {cB : Addr} (T : BBx K mg cB) (F : Fun K "add_post" "Bench.add_post" sM5 f fd)
    (FBE : Fun K "edit" "Bench.edit" sBE fBE fdBE) (bBE : Binds K fdBE ["self", "edit"] []) (mBE : Meth K cB "edit" fBE) (GBE : FnOk P w K mg base (CX P w) 7 fBE fdBE ["self", "edit"] (spBE K cB cBu cTE cNP cNG cBN cBL cTM cLO))
     :
    FnOk P w K mg base (L2.CX P w) 8 f fd ["self", "capacity"] (spMm K cB cBu cTE cNP cNG cBN cBL cTM cLO 5) := by
  refine F.okX scM5 (fun vs H Q E h => ?_) (fun cdv A outer s H vs Q E hr h => ?_)
  · obtain ⟨st, r, ob, v1, v2, d1, d2, ins, eds, z, rfl, _⟩ := h; rfl
  · obtain ⟨st, r, ob, v1, v2, d1, d2, ins, eds, z, rfl, hB, hK, h1, h2, q⟩ := h
    refine ⟨_, pss_one (ps_ret (pe_methW (pv 0) T.cl mBE GBE (hr.mono (by omega)) bBE (fun σ => passAt (takes_of rfl rfl rfl rfl) σ) (pa_cons (pe_tup (pa_cons (pe_str) (pa_cons (pv 1) pa_nil))) pa_nil))), ?_⟩
    obtain ⟨q1, q2, q3, q4⟩ := q
    obtain ⟨dx, S, M, sv, mv, hO, _⟩ := hB.ob
    refine ⟨.ref ob, rfl, ob, dx, _, rfl, hO, fB_no S M z (by decide +kernel) (by decide +kernel) (by decide +kernel), v1, rfl, (show (2 : Nat) ≤ sizeLine by decide), fun T nT => ?_⟩
    have sT := sameNew (o := .tup [.str "add_post", v1]) nT
    exact ⟨st, r, ob, T, 5, v1, v2, d1, d2, ins, eds, z, rfl, hB.same sT hK.to, hK, ⟨by decide, SqT.of upd_same, h1.lasts (.of sT), fun h => (h2 h).lasts (.of sT)⟩, fun hz => q1 hz _ sT, fun hz hl => q2 hz hl _ sT, fun hz hl cp hc H' s' => q3 hz hl cp hc H' (sT.trans s'), fun hz hl hn H' hB' hK' x' => q4 hz hl hn H' hB' hK' ((Ex1.of sT).trans x')⟩
set_option maxHeartbeats 16000000 in
theorem ok_M6 {cNP cNG cBN cBL cTM cLO : Addr} {cBu cTE : Addr} {f fBE : Addr} {fd fdBE : FuncData} {cB : Addr} (T : BBx K mg cB) (F : Fun K "remove_post" "Bench.remove_post" sM6 f fd)
    (FBE : Fun K "edit" "Bench.edit" sBE fBE fdBE) (bBE : Binds K fdBE ["self", "edit"] []) (mBE : Meth K cB "edit" fBE) (GBE : FnOk P w K mg base (CX P w) 7 fBE fdBE ["self", "edit"] (spBE K cB cBu cTE cNP cNG cBN cBL cTM cLO))
     :
    FnOk P w K mg base (L2.CX P w) 8 f fd ["self", "post"] (spMm K cB cBu cTE cNP cNG cBN cBL cTM cLO 6) := by
  refine F.okX scM6 (fun vs H Q E h => ?_) (fun cdv A outer s H vs Q E hr h => ?_)
  · obtain ⟨st, r, ob, v1, v2, d1, d2, ins, eds, z, rfl, _⟩ := h; rfl
  · obtain ⟨st, r, ob, v1, v2, d1, d2, ins, eds, z, rfl, hB, hK, h1, h2, q⟩ := h
    refine ⟨_, pss_one (ps_ret (pe_methW (pv 0) T.cl mBE GBE (hr.mono (by omega)) bBE (fun σ => passAt (takes_of rfl rfl rfl rfl) σ) (pa_cons (pe_tup (pa_cons (pe_str) (pa_cons (pv 1) pa_nil))) pa_nil))), ?_⟩
    obtain ⟨q1, q2, q3, q4⟩ := q
    obtain ⟨dx, S, M, sv, mv, hO, _⟩ := hB.ob
    refine ⟨.ref ob, rfl, ob, dx, _, rfl, hO, fB_no S M z (by decide +kernel) (by decide +kernel) (by decide +kernel), v1, rfl, (show (2 : Nat) ≤ sizeLine by decide), fun T nT => ?_⟩
    have sT := sameNew (o := .tup [.str "remove_post", v1]) nT
    exact ⟨st, r, ob, T, 6, v1, v2, d1, d2, ins, eds, z, rfl, hB.same sT hK.to, hK, ⟨by decide, SqT.of upd_same, h1.lasts (.of sT), fun h => (h2 h).lasts (.of sT)⟩, fun hz => q1 hz _ sT, fun hz hl => q2 hz hl _ sT, fun hz hl cp hc H' s' => q3 hz hl cp hc H' (sT.trans s'), fun hz hl hn H' hB' hK' x' => q4 hz hl hn H' hB' hK' ((Ex1.of sT).trans x')⟩
end
end Pv
namespace Pv
open PySem PySem.Spec PyProof.Rows L2
theorem lay_ints : ∀ ns : List Int, PyData.canLayAll0 (ns.map PyData.int) = true
  | [] => by simp [PyData.canLayAll0]
  | n :: ns => by simp [PyData.canLayAll0, PyData.canLay0, lay_ints ns]
theorem dep_ints : ∀ ns : List Int, PyData.depthAll (ns.map PyData.int) = 0
  | [] => by simp [PyData.depthAll]
  | n :: ns => by simp [PyData.depthAll, PyData.depth, dep_ints ns]
end Pv
namespace Pv
open PySem PySem.Spec PyProof.Rows L2
abbrev sSu : Stmt := topS 68
theorem scSu : FnScope ["instance", "applicants", "posts", "count"] ["instance"] (defScope sSu) := ⟨rfl, rfl, rfl, by decide +kernel, rfl, by decide +kernel, by decide +kernel⟩
abbrev sBI : Stmt := inCls (topS 69) 0
theorem scBI : FnScope ["self", "instance", "error"] ["self", "instance"] (defScope sBI) := ⟨rfl, rfl, rfl, by decide +kernel, rfl, by decide +kernel, by decide +kernel⟩
abbrev sBS : Stmt := inCls (topS 69) 15
theorem scBS : FnScope ["self", "version"] ["self", "version"] (defScope sBS) := ⟨rfl, rfl, rfl, by decide +kernel, rfl, by decide +kernel, by decide +kernel⟩
abbrev sBN : Stmt := inCls (topS 69) 16
theorem scBN : FnScope ["self", "version"] ["self", "version"] (defScope sBN) := ⟨rfl, rfl, rfl, by decide +kernel, rfl, by decide +kernel, by decide +kernel⟩
abbrev sBD : Stmt := inCls (topS 69) 19
theorem scBD : FnScope ["self"] ["self"] (defScope sBD) := ⟨rfl, rfl, rfl, by decide +kernel, rfl, by decide +kernel, by decide +kernel⟩
abbrev sBL : Stmt := inCls (topS 69) 21
theorem scBL : FnScope ["self"] ["self"] (defScope sBL) := ⟨rfl, rfl, rfl, by decide +kernel, rfl, by decide +kernel, by decide +kernel⟩
abbrev sBT : Stmt := inCls (topS 69) 22
theorem scBT : FnScope ["self"] ["self"] (defScope sBT) := ⟨rfl, rfl, rfl, by decide +kernel, rfl, by decide +kernel, by decide +kernel⟩
abbrev sBQ : Stmt := inCls (topS 69) 23
theorem scBQ : FnScope ["self", "other"] ["self", "other"] (defScope sBQ) := ⟨rfl, rfl, rfl, by decide +kernel, rfl, by decide +kernel, by decide +kernel⟩
abbrev siNV : Stmt := inCls (topS 25) 0
theorem sciNV : FnScope ["self", "value"] ["self", "value"] (defScope siNV) := ⟨rfl, rfl, rfl, by decide +kernel, rfl, by decide +kernel, by decide +kernel⟩
theorem ok_iNV {P : Program} {w : World} {K : PySem.W.Frag} {mg : Str → Option Value} {base : Heap} {f C : Addr} {fd : FuncData} (F : Fun K "__init__" "NoVersion.__init__" siNV f fd) (X : XL K C f "value") : FnOk P w K mg base CX0 1 f fd ["self", "value"] (spI1 C "value") := by
  refine F.ok sciNV (fun vs H Q E h => ?_) (fun cdv A outer s H vs Q E hr h => ?_)
  · obtain ⟨a, v, rfl, _⟩ := h; rfl
  · obtain ⟨a, v, rfl, hH, q⟩ := h
    refine ⟨_, pss_one (ps_ostL (pv 0) (pv 1)), ?_⟩
    exact ⟨v, rfl, .ref a, rfl, a, C, rfl, X.T, X.no, hH, fun dx nd ne => q dx nd ne⟩
theorem sA (a b c : Str) : a ++ b ++ c = a ++ (b ++ c) := congrArg Str.mk (Array.append_assoc (xs := a.cps) (ys := b.cps) (zs := c.cps))
theorem sL (a b : Str) : (a ++ b).length = a.length + b.length := by
  first | exact Str.length_append a b | (cases a; cases b; show Array.size _ = _; simp; rfl)
theorem sE (a : Str) : Str.empty ++ a = a := by
  cases a
  show Str.mk _ = Str.mk _
  simp [Str.empty]
def tI (i : Int) : Str := Str.ofString (toString i)
theorem tI_len {i : Int} (h : i.natAbs < 10 ^ 20) : (tI i).length ≤ 25 := (fine_int h).ln
theorem tI_log {i : Int} (h : i.natAbs < 10 ^ 20) : i.natAbs.log2 < 1920 := by
  by_cases h0 : i.natAbs = 0
  · rw [h0]; decide
  · exact Nat.lt_trans ((Nat.log2_lt h0).mpr (Nat.lt_trans h (by decide : 10 ^ 20 < 2 ^ 100))) (by decide)
def sumG (gs : List Gp) : Int := (gs.map (·.2)).sum
/-- the numbers of posts, groups and applicants, in words -/
def sumT (x : Ins) : Str := tI (x.1.length : Nat) ++ Str.ofString " posts, " ++ tI (x.2.length : Nat) ++ Str.ofString " groups, " ++ tI (sumG x.2) ++ Str.ofString " applicants"
def bnT (x : Ins) (n : Nat) : Str := sumT x ++ Str.ofString ", " ++ tI (n : Nat) ++ Str.ofString " edits"
theorem sumG_in {cs : List Int} {gs : List Gp} (ok : InsOk cs gs) : 0 ≤ sumG gs ∧ sumG gs ≤ 10 * 10 ^ 12 := by
  have key : ∀ l : List Gp, (∀ g ∈ l, 1 ≤ g.2 ∧ g.2 ≤ 10 ^ 12) → 0 ≤ sumG l ∧ sumG l ≤ l.length * 10 ^ 12 := by
    intro l
    induction l with
    | nil => intro _; exact ⟨Int.le_refl _, by simp [sumG]⟩
    | cons g l ih =>
      intro h
      have h1 := h g (by simp)
      have h2 := ih fun x hx => h x (by simp [hx])
      show 0 ≤ g.2 + sumG l ∧ g.2 + sumG l ≤ ((l.length + 1 : Nat) : Int) * 10 ^ 12
      omega
  have := key gs fun g hg => (ok.gp g hg).2.2
  have := ok.g10
  omega
def spSu (K : PySem.W.Frag) : Sp := fun vs H Q _ => ∃ (i : Addr) (x : Ins), vs = [.ref i] ∧ Dp K H (.ref i) (dI2 x) ∧ InsOk x.1 x.2 ∧ ∀ H', Same H H' → Q (.str (sumT x)) H'
def spBI (K : PySem.W.Frag) (C cBI : Addr) : Sp := fun vs H Q E => ∃ (st r x dx : Addr) (v : V) (d : PyData), vs = [.ref x, v] ∧ H x = some (.ins C dx []) ∧ Dq K st r H v d ∧
  (∀ e1 e2, instE d = some (.tuple [e1, e2]) → ∀ (H' : Hp) (a b : V) (dy : Addr), Dp K H' a e1 → Dp K H' b e2 → Same H H' → H' dy = none → E (.ref cBI) (some dy) (upd H' dy (.xd [("reason", b), ("path", a)]))) ∧
  (instE d = none → ∃ y : Ins, d = dI2 y ∧ InOk y.1 y.2 ∧ ∀ H', BnAt K C H' x [y] [] false → Ex1 x H H' → Q .non H')
def spBS (K : PySem.W.Frag) (C cNV : Addr) : Sp := fun vs H Q E => ∃ (st r ob : Addr) (v : V) (d : PyData) (ins : List Ins) (eds : List PyData) (z : Bool), vs = [.ref ob, v] ∧ BnAt K C H ob ins eds z ∧ BnOk ins eds ∧ Dq K st r H v d ∧
  (d = .none → ∀ i, Dp K H (.ref i) (dI2 (lastI ins)) → Q (.ref i) H) ∧
  (d ≠ .none → withinD 0 eds.length d = true → ∀ i, Dp K H (.ref i) (dI2 (ins.getD (idx d) ([], []))) → Q (.ref i) H) ∧
  (d ≠ .none → withinD 0 eds.length d = false → ∀ dx, H dx = none → E (.ref cNV) (some dx) (upd H dx (.xd [("value", v)])))
abbrev spBN := spBS
def spBD (K : PySem.W.Frag) (C : Addr) : Sp := fun vs H Q _ => ∃ (ob : Addr) (ins : List Ins) (eds : List PyData) (z : Bool), vs = [.ref ob] ∧ BnAt K C H ob ins eds z ∧ ∀ M, Dp K H (.ref M) (.tuple eds) → Q (.ref M) H
def spBL (K : PySem.W.Frag) (C : Addr) : Sp := fun vs H Q _ => ∃ (ob : Addr) (ins : List Ins) (eds : List PyData) (z : Bool), vs = [.ref ob] ∧ BnAt K C H ob ins eds z ∧ Q (.int (eds.length : Nat)) H
def spBT (K : PySem.W.Frag) (C : Addr) : Sp := fun vs H Q _ => ∃ (ob : Addr) (ins : List Ins) (eds : List PyData) (z : Bool), vs = [.ref ob] ∧ BnAt K C H ob ins eds z ∧ BnOk ins eds ∧ ∀ H', Same H H' → Q (.str (bnT (lastI ins) eds.length)) H'
def spBQ (K : PySem.W.Frag) (C : Addr) : Sp := fun vs H Q _ => ∃ (a b : Addr) (i1 i2 : List Ins) (e1 e2 : List PyData) (z1 z2 : Bool), vs = [.ref a, .ref b] ∧ BnAt K C H a i1 e1 z1 ∧ BnOk i1 e1 ∧ BnAt K C H b i2 e2 z2 ∧ BnOk i2 e2 ∧ Q (.bl (PyData.eqv (dI2 (lastI i1)) (dI2 (lastI i2)))) H
theorem lay_gp : ∀ gs : List Gp, PyData.canLayAll0 (gs.map dGrp) = true ∧ PyData.depthAll (gs.map dGrp) ≤ 2
  | [] => by simp [PyData.canLayAll0, PyData.depthAll]
  | g :: gs => by
    obtain ⟨h1, h2⟩ := lay_gp gs
    have l := lay_ints g.1
    have d := dep_ints g.1
    constructor
    · simp [PyData.canLayAll0, PyData.canLay0, dGrp, dI, l, h1]
    · simp only [List.map_cons, PyData.depthAll, PyData.depth, dGrp, dI, d]
      omega
theorem shaped_dI2 (x : Ins) : SeqAt.shaped (dI2 x) = true := by
  obtain ⟨h1, h2⟩ := lay_gp x.2
  have l := lay_ints x.1
  have d := dep_ints x.1
  show (PyData.canLay0 (dInst x.1 x.2) && decide (PyData.depth (dInst x.1 x.2) ≤ 64)) = true
  rw [Bool.and_eq_true]
  refine ⟨by simp [PyData.canLay0, PyData.canLayAll0, dInst, dI, l, h1], decide_eq_true ?_⟩
  simp only [dInst, dI, PyData.depth, PyData.depthAll, d]; omega
section
variable {P : Program} {w : World} {K : PySem.W.Frag} {mg : Str → Option Value} {base : Heap}
set_option maxHeartbeats 16000000 in
theorem ok_Su {f : Addr} {fd : FuncData} (F : Fun K "summary" "summary" sSu f fd)
    (m_sum : mg "sum" = none) (m_len : mg "len" = none) :
    FnOk P w K mg base CX0 1 f fd ["instance"] (spSu K) := by
  refine F.ok scSu (fun vs H Q E h => ?_) (fun cdv A outer s H vs Q E hr h => ?_)
  · obtain ⟨i, x, rfl, _⟩ := h; rfl
  · obtain ⟨i, x, rfl, hI, ok, q⟩ := h
    refine ⟨_, pss_cons (ps_set (i := 1) scSu.nd rfl (.inl rfl) (pe_callB (cr_sum rfl) (by rfl) m_sum (by decide +kernel) (pa_cons (pe_lc (own := [("posts", 2), ("count", 3)]) (g := gTup K 2 (gCons (gName 2) (gCons (gName 3) gNil))) (tt := tYes) (te := tVar 3) rfl scSu.nd (pi_tup (pe_ix ix_tup (pv 0) (pe_int) (fun _ _ => rfl))) (blkOk_by (N := ["instance", "applicants", "posts", "count"]) (sc := defScope sSu) (by decide +kernel)) (fun _ _ _ _ _ => pg_tup rfl (pgs_cons (pg_name (i := 2) scSu.nd rfl (.inl rfl)) (pgs_cons (pg_name (i := 3) scSu.nd rfl (.inl rfl)) pgs_nil))) (fun _ _ _ _ _ => pts_nil) (fun _ _ _ _ _ => pv 3)) pa_nil)))
      (pss_one (ps_ret (pe_joined (.cons (pe_fmt (pe_callB call_lenQ (by rfl) m_len PySem.boot_len (pa_cons (pe_ix ix_tup (pv 0) (pe_int) (fun _ _ => rfl)) pa_nil))) (.cons pe_str (.cons (pe_fmt (pe_callB call_lenQ (by rfl) m_len PySem.boot_len (pa_cons (pe_ix ix_tup (pv 0) (pe_int) (fun _ _ => rfl)) pa_nil))) (.cons pe_str (.cons (pe_fmt (pv 1)) (.cons pe_str .nil))))))))), ?_⟩
    obtain ⟨cs, gs⟩ := x
    have ok : InsOk cs gs := ok
    have hI : Dp K H (.ref i) (dInst cs gs) := hI
    have p1 : (Str.ofString " posts, ").length = 8 := by decide +kernel
    have p2 : (Str.ofString " groups, ").length = 9 := by decide +kernel
    have p3 : (Str.ofString " applicants").length = 11 := by decide +kernel
    obtain ⟨_, ca, ga, xs, e, hi, hc, hgt, hgs⟩ := inst_open hI
    cases e
    have lx := DpAll.len hgs
    rw [List.length_map] at lx
    have h6 := ok.c6
    have h10 := ok.g10
    refine ⟨.ref i, rfl, i, _, 1, .ref ga, rfl, rfl, hi, atI_nat (j := 1) rfl, ga, rfl, ⟨_, hgt⟩, fun D nD => lc_it (walk_tup (K := K) (a := ga) (xs := xs))
      (fun k H1 => Same H H1 ∧ H1 D = some (.lst (((gs.take k).map (·.2)).map V.int))) ⟨sameNew nD, upd_same⟩ (fun k H1 _ h => (TupK.of h.1).sq hgt) ?_ ?_⟩
    · rintro k w H1 H2 hk ⟨s1, e1⟩ ⟨rfl, hw⟩
      have hkg : k < gs.length := by omega
      have hg := List.getElem?_eq_getElem hkg
      obtain ⟨gA, pA, hx, hG, hP⟩ := grp_at hgs hg
      rw [hx] at hw
      cases hw
      refine ⟨gA, _, rfl, (TupK.of s1).sq hG, rfl, _, _, rfl, _, _, rfl, rfl, rfl, .int gs[k].2, rfl, _, e1, by rw [List.length_map, List.length_map, List.length_take]; exact small (by omega), samePut s1 nD, ?_⟩
      rw [upd_same, take_snocW hg, List.map_append, List.map_append]; rfl
    rintro H1 ⟨s1, e1⟩
    rw [lx, List.take_length] at e1
    have hi1 := (TupK.of s1).sq hi
    have sb := sumG_in ok
    have b1 : ((cs.length : Nat) : Int).natAbs < 10 ^ 20 := by omega
    have b2 : ((gs.length : Nat) : Int).natAbs < 10 ^ 20 := by omega
    have b3 : (sumG gs).natAbs < 10 ^ 20 := by omega
    have t1 := tI_len b1
    have t2 := tI_len b2
    have t3 := tI_len b3
    refine ⟨D, _, rfl, SqL.of e1, ?_⟩
    have ll : ((cs.map V.int).length : Int) = (cs.length : Nat) := by rw [List.length_map]
    refine ⟨.ref i, rfl, i, _, 0, .ref ca, rfl, rfl, hi1, atI_nat (j := 0) rfl, ca, _, rfl, .inr ((TupK.of s1).sq hc), .inr ⟨((cs.length : Nat) : Int), by rw [ll], tI_log b1, tI (cs.length : Nat), rfl, ?_, ?_⟩⟩
    · rw [sE]; exact Nat.le_of_lt (small (by omega))
    rw [sE]
    refine ⟨Str.ofString " posts, ", rfl, by rw [sL]; exact Nat.le_of_lt (small (by omega)), ?_⟩
    refine ⟨.ref i, rfl, i, _, 1, .ref ga, rfl, rfl, hi1, atI_nat (j := 1) rfl, ga, _, rfl, .inr ((TupK.of s1).sq hgt), .inr ⟨((gs.length : Nat) : Int), by rw [lx], tI_log b2, tI (gs.length : Nat), rfl, ?_, ?_⟩⟩
    · rw [sL, sL]; exact Nat.le_of_lt (small (by omega))
    refine ⟨Str.ofString " groups, ", rfl, by rw [sL, sL, sL]; exact Nat.le_of_lt (small (by omega)), ?_⟩
    refine ⟨.int (sumG gs), rfl, .inr ⟨sumG gs, rfl, tI_log b3, tI (sumG gs), rfl, ?_, ?_⟩⟩
    · rw [sL, sL, sL, sL]; exact Nat.le_of_lt (small (by omega))
    refine ⟨Str.ofString " applicants", rfl, by rw [sL, sL, sL, sL, sL]; exact Nat.le_of_lt (small (by omega)), q H1 s1⟩
set_option maxHeartbeats 16000000 in
theorem ok_BI {f fIE : Addr} {fd fdIE : FuncData} {cB : Addr} (T : BBx K mg cB) (F : Fun K "__init__" "Bench.__init__" sBI f fd)
    (FIE : Fun K "instance_error" "instance_error" sIErr fIE fdIE) (bIE : Binds K fdIE ["value"] []) (gIE : mg "instance_error" = some (.ref fIE)) (GIE : FnOk P w K mg base CX0 5 fIE fdIE ["value"] (spErr K instE))
    {cBI : Addr} {fiBI : Addr} {fdiBI : FuncData} (gBI : mg "BadInstance" = some (.ref cBI)) (XBI : XF2 K cBI fiBI "path" "reason") (GiBI : FnOk P w K mg base CX0 1 fiBI fdiBI ["self", "path", "reason"] (spI2 cBI "path" "reason")) (biBI : Binds K fdiBI ["self", "path", "reason"] [])
     :
    FnOk P w K mg base (L2.CX P w) 6 f fd ["self", "instance"] (spBI K cB cBI) := by
  refine F.okX scBI (fun vs H Q E h => ?_) (fun cdv A outer s H vs Q E hr h => ?_)
  · obtain ⟨st, r, x, dx, v, d, rfl, _⟩ := h; rfl
  · obtain ⟨st, r, x, dx, v, d, rfl, hO, hd, q1, q⟩ := h
    refine ⟨_, pss_cons (ps_set (i := 2) scBI.nd rfl (.inl rfl) (pe_call GIE (hr.mono (by omega)) (by rfl) gIE FIE.kp bIE .nil pass0 (pa_cons (pv 1) pa_nil)))
      (pss_cons (ps_if (pt_cmp (pc_notN (pv 2)))
        (pss_one (ps_raise rfl (takes_of rfl rfl rfl rfl) (pmk_oex XBI.T XBI.iC XBI.tI GiBI (hr.mono (by omega)) biBI .nil pass0 (by rfl) gBI (pa_cons (pe_ix ix_tup (pv 2) (pe_int) (fun _ _ => rfl)) (pa_cons (pe_ix ix_tup (pv 2) (pe_int) (fun _ _ => rfl)) pa_nil))))) pss_nil)
      (pss_cons (ps_fld (pv 0) (pe_tup (pa_cons (pv 1) pa_nil)) rfl)
      (pss_cons (ps_fld (pv 0) (pe_tup (pa_nil)) rfl)
      (pss_one (ps_fld (pv 0) (pe_bl) rfl))))), ?_⟩
    refine ⟨v, rfl, st, r, v, d, rfl, hd, fun H1 e s1 he => ?_⟩
    cases hE : instE d with
    | some e1 =>
      rw [hE] at he
      obtain ⟨pp, ss, rfl⟩ := instE_err hE
      have he : Dp K H1 e (err pp ss) := he
      unfold err at he hE
      cases he with
      | tup hT hx =>
        cases hx with
        | cons d1 hx =>
          cases hx with
          | cons d2 hx =>
            cases hx
            refine ⟨_, rfl, _, rfl, iteT ?_⟩
            refine ⟨_, rfl, _, _, 0, _, rfl, rfl, hT, atI_nat (j := 0) rfl, _, rfl, _, _, 1, _, rfl, rfl, hT, atI_nat (j := 1) rfl, ?_⟩
            exact mkO2 fun dy nd => q1 _ _ hE H1 _ _ dy d1 d2 s1 nd
    | none =>
      rw [hE] at he
      obtain ⟨y, rfl, hio, q⟩ := q hE
      have he : Dp K H1 e .none := he
      cases he
      refine ⟨.non, rfl, _, rfl, iteF ?_⟩
      have hO1 := s1 _ _ hO
      have dv := (TupK.of s1).dp _ _ (to_dInst _ _) (Dq.to_dp (to_dInst _ _) hd)
      refine ⟨v, rfl, (show (1 : Nat) ≤ sizeLine by decide), fun S nS => ?_⟩
      have sS := sameNew (o := .tup [v]) nS
      have hO2 := sS _ _ hO1
      have hS2 : SqT K (upd H1 S (.tup [v])) S [v] := SqT.of upd_same
      have dv2 := (TupK.of sS).dp _ _ (to_dInst _ _) dv
      have x2 : Ex1 x H (upd H1 S (.tup [v])) := Ex1.of (s1.trans sS)
      generalize upd H1 S (.tup [v]) = H2 at hO2 hS2 dv2 x2 ⊢
      refine ⟨.ref x, rfl, x, cB, dx, _, rfl, hO2, T.cl, T.nS, by decide, ?_⟩
      have tk3 : TupK H2 (upd H2 x (.ins cB dx (putF "states" (.ref S) []))) := tk_ins hO2
      have hO3 : (upd H2 x (.ins cB dx (putF "states" (.ref S) []))) x = some (.ins cB dx (putF "states" (.ref S) [])) := upd_same
      have x3 : Ex1 x H (upd H2 x (.ins cB dx (putF "states" (.ref S) []))) := x2.trans ex_put
      have hS3 := tk3.sq hS2
      have dv3 := tk3.dp _ _ (to_dInst _ _) dv2
      generalize upd H2 x (.ins cB dx (putF "states" (.ref S) [])) = H3 at hO3 x3 hS3 dv3 ⊢
      refine ⟨Nat.zero_le _, fun M nM => ?_⟩
      have sM := sameNew (o := .tup []) nM
      have hM4 : SqT K (upd H3 M (.tup [])) M [] := SqT.of upd_same
      have hO4 := sM _ _ hO3
      have x4 := x3.trans (Ex1.of sM)
      have hS4 := (TupK.of sM).sq hS3
      have dv4 := (TupK.of sM).dp _ _ (to_dInst _ _) dv3
      generalize upd H3 M (.tup []) = H4 at hM4 hO4 x4 hS4 dv4 ⊢
      refine ⟨.ref x, rfl, x, cB, dx, _, rfl, hO4, T.cl, T.nM, by have := length_putF "states" (.ref S) []; simp at this; omega, ?_⟩
      have tk5 : TupK H4 (upd H4 x (.ins cB dx (putF "made" (.ref M) (putF "states" (.ref S) [])))) := tk_ins hO4
      have hO5 : (upd H4 x (.ins cB dx (putF "made" (.ref M) (putF "states" (.ref S) [])))) x = some (.ins cB dx (putF "made" (.ref M) (putF "states" (.ref S) []))) := upd_same
      have x5 := x4.trans (ex_put (b := x) (o := .ins cB dx (putF "made" (.ref M) (putF "states" (.ref S) []))))
      have hS5 := tk5.sq hS4
      have hM5 := tk5.sq hM4
      have dv5 := tk5.dp _ _ (to_dInst _ _) dv4
      generalize upd H4 x (.ins cB dx (putF "made" (.ref M) (putF "states" (.ref S) []))) = H5 at hO5 x5 hS5 hM5 dv5 ⊢
      refine ⟨.ref x, rfl, x, cB, dx, _, rfl, hO5, T.cl, T.nP, ?_, ?_⟩
      · have h1 := length_putF "made" (.ref M) (putF "states" (.ref S) [])
        have h2 := length_putF "states" (.ref S) []
        simp at h2; omega
      have tk6 : TupK H5 (upd H5 x (.ins cB dx (fldsB S M false))) := tk_ins hO5
      refine q _ ⟨dx, S, M, [v], [], upd_same, tk6.sq hS5, tk6.sq hM5, .cons (tk6.dp _ _ (to_dInst _ _) dv5) .nil, .nil⟩ (x5.trans ex_put)
set_option maxHeartbeats 16000000 in
theorem ok_BS {f fWi : Addr} {fd fdWi : FuncData} {cB : Addr} (T : BBx K mg cB) (F : Fun K "state" "Bench.state" sBS f fd)
    (FWi : Fun K "is_within" "is_within" sWithin fWi fdWi) (bWi : Binds K fdWi ["value", "least", "most"] []) (gWi : mg "is_within" = some (.ref fWi)) (GWi : FnOk P w K mg base CX0 2 fWi fdWi ["value", "least", "most"] (spWithin K))
    {cNV : Addr} {fiNV : Addr} {fdiNV : FuncData} (gNV : mg "NoVersion" = some (.ref cNV)) (XNV : XL K cNV fiNV "value") (GiNV : FnOk P w K mg base CX0 1 fiNV fdiNV ["self", "value"] (spI1 cNV "value")) (biNV : Binds K fdiNV ["self", "value"] [])
    (m_len : mg "len" = none) :
    FnOk P w K mg base (L2.CX P w) 3 f fd ["self", "version"] (spBS K cB cNV) := by
  refine F.okX scBS (fun vs H Q E h => ?_) (fun cdv A outer s H vs Q E hr h => ?_)
  · obtain ⟨st, r, ob, v, d, ins, eds, z, rfl, _⟩ := h; rfl
  · obtain ⟨st, r, ob, v, d, ins, eds, z, rfl, hB, hK, hd, q1, q2, q⟩ := h
    refine ⟨_, pss_cons (ps_if (pt_cmp (pc_isN (pv 1)))
        (pss_one (ps_ret (pe_ix ix_tup (pe_fld (pv 0) rfl) (pe_un un_neg (pe_int)) (fun _ _ => rfl)))) pss_nil)
      (pss_cons (ps_if (pt_not (pt_val (pe_call GWi (hr.mono (by omega)) (by rfl) gWi FWi.kp bWi .nil pass0 (pa_cons (pv 1) (pa_cons (pe_int) (pa_cons (pe_callB call_lenQ (by rfl) m_len PySem.boot_len (pa_cons (pe_fld (pv 0) rfl) pa_nil)) pa_nil))))))
        (pss_one (ps_raise rfl (takes_of rfl rfl rfl rfl) (pmk_le XNV.T XNV.iC XNV.tI GiNV (hr.mono (by omega)) biNV (by rfl) gNV (pa_cons (pv 1) pa_nil)))) pss_nil)
      (pss_one (ps_ret (pe_ix ix_tup (pe_fld (pv 0) rfl) (pv 1) (fun _ _ => rfl))))), ?_⟩
    obtain ⟨dx, S, M, sv, mv, hO, hS, hM, dS, dM⟩ := hB.ob
    have l60 := hK.l60
    have l1 := hK.l1
    obtain ⟨lv, hlv, hlD⟩ := last_at dS (by omega)
    have ref_of : ∀ {u : V} {x : Ins}, Dp K H u (dI2 x) → ∃ a, u = .ref a := fun {u x} h => by
      unfold dI2 at h
      obtain ⟨a, c, g, xs, e, _⟩ := inst_open h
      exact ⟨a, e⟩
    refine ⟨v, rfl, _, rfl, ite2 (fun h1 => ?_) (fun h1 => ?_)⟩
    · have hv : v = .non := of_decide_eq_true h1
      subst hv
      cases hd
      obtain ⟨la, rfl⟩ := ref_of hlD
      exact ⟨.ref ob, rfl, ob, cB, dx, _, .ref S, rfl, hO, T.cl, T.nS, fB_states S M z, _, rfl, S, _, _, .ref la, rfl, rfl, hS, hlv, q1 rfl la hlD⟩
    have hv : v ≠ .non := of_decide_eq_false (Bool.eq_false_iff.mpr h1)
    have hdn : d ≠ .none := fun e => by rw [e] at hd; cases hd; exact hv rfl
    refine ⟨v, rfl, .ref ob, rfl, ob, cB, dx, _, .ref M, rfl, hO, T.cl, T.nM, fB_made S M z, M, _, rfl, .inr hM, st, r, v, d, _, _, rfl, hd, ?_⟩
    rw [DpAll.len dM]
    cases hb : withinD 0 eds.length d with
    | false => exact ⟨_, rfl, iteT ⟨v, rfl, mkO1 fun dy nd => q hdn hb dy nd⟩⟩
    | true =>
      refine ⟨_, rfl, iteF ?_⟩
      have hk := idx_in hb
      have q2 := q2 hdn hb
      obtain ⟨a, rfl, a0, a1⟩ := within_int hb
      cases hd
      have hk : a.toNat ≤ eds.length := by have : ((a.toNat : Nat) : Int) ≤ eds.length := hk; omega
      have hl := DpAll.len dS
      rw [List.length_map] at hl
      have hat : sv[a.toNat]? = some (sv[a.toNat]'(by omega)) := List.getElem?_eq_getElem (by omega)
      obtain ⟨dd, hdd, hx⟩ := DpAll.at dS hat
      rw [List.getElem?_map] at hdd
      obtain ⟨x, hx', rfl⟩ := Option.map_eq_some_iff.mp hdd
      obtain ⟨la, hla⟩ := ref_of hx
      have e : ins.getD (idx (.int a)) ([], []) = x := by show ins.getD a.toNat ([], []) = x; rw [List.getD_eq_getElem?_getD, hx']; rfl
      have ha : atI sv a = some (.ref la) := by
        have := atI_nat hat
        rw [hla] at this
        rwa [show ((a.toNat : Nat) : Int) = a by omega] at this
      exact ⟨.ref ob, rfl, ob, cB, dx, _, .ref S, rfl, hO, T.cl, T.nS, fB_states S M z, .int a, rfl, S, _, _, .ref la, rfl, rfl, hS, ha, q2 la (by rw [e, ← hla]; exact hx)⟩
set_option maxHeartbeats 16000000 in
theorem ok_BN {cNV : Addr} {f fBS : Addr} {fd fdBS : FuncData} {cB : Addr} (T : BBx K mg cB) (F : Fun K "instance" "Bench.instance" sBN f fd)
    (FBS : Fun K "state" "Bench.state" sBS fBS fdBS) (bBS : Binds K fdBS ["self", "version"] []) (mBS : Meth K cB "state" fBS) (GBS : FnOk P w K mg base (CX P w) 3 fBS fdBS ["self", "version"] (spBS K cB cNV))
     :
    FnOk P w K mg base (L2.CX P w) 4 f fd ["self", "version"] (spBN K cB cNV) := by
  refine F.okX scBN (fun vs H Q E h => ?_) (fun cdv A outer s H vs Q E hr h => ?_)
  · obtain ⟨st, r, ob, v, d, ins, eds, z, rfl, _⟩ := h; rfl
  · obtain ⟨st, r, ob, v, d, ins, eds, z, rfl, hB, hK, hd, q1, q2, q⟩ := h
    refine ⟨_, pss_one (ps_ret (pe_methW (pv 0) T.cl mBS GBS (hr.mono (by omega)) bBS (fun σ => passAt (takes_of rfl rfl rfl rfl) σ) (pa_cons (pv 1) pa_nil))), ?_⟩
    obtain ⟨dx, S, M, sv, mv, hO, _⟩ := hB.ob
    exact ⟨.ref ob, rfl, ob, dx, _, rfl, hO, fB_no S M z (by decide +kernel) (by decide +kernel) (by decide +kernel), v, rfl, st, r, ob, v, d, ins, eds, z, rfl, hB, hK, hd, q1, q2, q⟩
set_option maxHeartbeats 16000000 in
theorem ok_BD {f : Addr} {fd : FuncData} {cB : Addr} (T : BBx K mg cB) (F : Fun K "edits" "Bench.edits" sBD f fd)
     :
    FnOk P w K mg base CX0 1 f fd ["self"] (spBD K cB) := by
  refine F.ok scBD (fun vs H Q E h => ?_) (fun cdv A outer s H vs Q E hr h => ?_)
  · obtain ⟨ob, ins, eds, z, rfl, _⟩ := h; rfl
  · obtain ⟨ob, ins, eds, z, rfl, hB, q⟩ := h
    refine ⟨_, pss_one (ps_ret (pe_fld (pv 0) rfl)), ?_⟩
    obtain ⟨dx, S, M, sv, mv, hO, hS, hM, dS, dM⟩ := hB.ob
    exact ⟨.ref ob, rfl, ob, cB, dx, _, .ref M, rfl, hO, T.cl, T.nM, fB_made S M z, q M (.tup hM dM)⟩
set_option maxHeartbeats 16000000 in
theorem ok_BL {f : Addr} {fd : FuncData} {cB : Addr} (T : BBx K mg cB) (F : Fun K "__len__" "Bench.__len__" sBL f fd)
    (m_len : mg "len" = none) :
    FnOk P w K mg base CX0 1 f fd ["self"] (spBL K cB) := by
  refine F.ok scBL (fun vs H Q E h => ?_) (fun cdv A outer s H vs Q E hr h => ?_)
  · obtain ⟨ob, ins, eds, z, rfl, _⟩ := h; rfl
  · obtain ⟨ob, ins, eds, z, rfl, hB, q⟩ := h
    refine ⟨_, pss_one (ps_ret (pe_callB call_lenQ (by rfl) m_len PySem.boot_len (pa_cons (pe_fld (pv 0) rfl) pa_nil))), ?_⟩
    obtain ⟨dx, S, M, sv, mv, hO, hS, hM, dS, dM⟩ := hB.ob
    refine ⟨.ref ob, rfl, ob, cB, dx, _, .ref M, rfl, hO, T.cl, T.nM, fB_made S M z, M, _, rfl, .inr hM, ?_⟩
    rw [DpAll.len dM]; exact q
set_option maxHeartbeats 16000000 in
theorem ok_BT {f fSu : Addr} {fd fdSu : FuncData} {cB : Addr} (T : BBx K mg cB) (F : Fun K "__str__" "Bench.__str__" sBT f fd)
    (FSu : Fun K "summary" "summary" sSu fSu fdSu) (bSu : Binds K fdSu ["instance"] []) (gSu : mg "summary" = some (.ref fSu)) (GSu : FnOk P w K mg base CX0 1 fSu fdSu ["instance"] (spSu K))
    (m_len : mg "len" = none) :
    FnOk P w K mg base CX0 2 f fd ["self"] (spBT K cB) := by
  refine F.ok scBT (fun vs H Q E h => ?_) (fun cdv A outer s H vs Q E hr h => ?_)
  · obtain ⟨ob, ins, eds, z, rfl, _⟩ := h; rfl
  · obtain ⟨ob, ins, eds, z, rfl, hB, hK, q⟩ := h
    refine ⟨_, pss_one (ps_ret (pe_joined (.cons (pe_fmt (pe_call GSu (hr.mono (by omega)) (by rfl) gSu FSu.kp bSu .nil pass0 (pa_cons (pe_ix ix_tup (pe_fld (pv 0) rfl) (pe_un un_neg (pe_int)) (fun _ _ => rfl)) pa_nil))) (.cons pe_str (.cons (pe_fmt (pe_callB call_lenQ (by rfl) m_len PySem.boot_len (pa_cons (pe_fld (pv 0) rfl) pa_nil))) (.cons pe_str .nil)))))), ?_⟩
    obtain ⟨dx, S, M, sv, mv, hO, hS, hM, dS, dM⟩ := hB.ob
    have l60 := hK.l60
    have l1 := hK.l1
    obtain ⟨lv, hlv, hlD⟩ := last_at dS (by omega)
    have hio := hK.io _ (last_in (ins := ins) (by omega))
    obtain ⟨la, rfl⟩ : ∃ la, lv = .ref la := by
      unfold dI2 at hlD
      obtain ⟨a, c, g, xs, e, _⟩ := inst_open hlD
      exact ⟨a, e⟩
    have sb := sumG_in hio.ok
    have h6 := hio.ok.c6
    have h10 := hio.ok.g10
    have t1 := tI_len (i := ((lastI ins).1.length : Nat)) (by omega)
    have t2 := tI_len (i := ((lastI ins).2.length : Nat)) (by omega)
    have t3 := tI_len (i := sumG (lastI ins).2) (by omega)
    have t4 := tI_len (i := (eds.length : Nat)) (by omega)
    have p1 : (Str.ofString " posts, ").length = 8 := by decide +kernel
    have p2 : (Str.ofString " groups, ").length = 9 := by decide +kernel
    have p3 : (Str.ofString " applicants").length = 11 := by decide +kernel
    have p4 : (Str.ofString ", ").length = 2 := by decide +kernel
    have p5 : (Str.ofString " edits").length = 6 := by decide +kernel
    have lT : (sumT (lastI ins)).length ≤ 200 := by unfold sumT; rw [sL, sL, sL, sL, sL]; omega
    refine ⟨.ref ob, rfl, ob, cB, dx, _, .ref S, rfl, hO, T.cl, T.nS, fB_states S M z, _, rfl, S, _, _, .ref la, rfl, rfl, hS, hlv, la, lastI ins, rfl, hlD, hio.ok, fun H1 s1 => ?_⟩
    refine .inl ⟨_, rfl, Nat.le_of_lt (small (by omega)), sumT (lastI ins), rfl, by rw [sE]; exact Nat.le_of_lt (small (by omega)), ?_⟩
    rw [sE]
    have hO1 := s1 _ _ hO
    refine ⟨Str.ofString ", ", rfl, by rw [sL]; exact Nat.le_of_lt (small (by omega)), ?_⟩
    refine ⟨.ref ob, rfl, ob, cB, dx, _, .ref M, rfl, hO1, T.cl, T.nM, fB_made S M z, M, _, rfl, .inr ((TupK.of s1).sq hM), .inr ⟨((eds.length : Nat) : Int), by rw [DpAll.len dM], tI_log (by omega), tI (eds.length : Nat), rfl, by rw [sL, sL]; exact Nat.le_of_lt (small (by omega)), ?_⟩⟩
    refine ⟨Str.ofString " edits", rfl, by rw [sL, sL, sL]; exact Nat.le_of_lt (small (by omega)), q H1 s1⟩
set_option maxHeartbeats 16000000 in
theorem ok_BQ {f : Addr} {fd : FuncData} {cB : Addr} (T : BBx K mg cB) (F : Fun K "__eq__" "Bench.__eq__" sBQ f fd)
    (m_isinstance : mg "isinstance" = none) :
    FnOk P w K mg base CX0 1 f fd ["self", "other"] (spBQ K cB) := by
  refine F.ok scBQ (fun vs H Q E h => ?_) (fun cdv A outer s H vs Q E hr h => ?_)
  · obtain ⟨a, b, i1, i2, e1, e2, z1, z2, rfl, _⟩ := h; rfl
  · obtain ⟨a, b, i1, i2, e1, e2, z1, z2, rfl, hA, kA, hB, kB, q⟩ := h
    have hu64 : (A.deeper (envOfC "Bench.__eq__" (defScope sBQ) s.heap.objs.size f cdv)).units + 64 < cLine := by have := hr.un; omega
    refine ⟨_, pss_one (ps_ret (pe_and (pe_callB call_isi (by rfl) m_isinstance (by decide +kernel) (pa_cons (pv 1) (pa_cons (pe_glob (v := .ref cB) (by rfl) T.mgC rfl) pa_nil))) (pe_one (pe_cmpR (op_eqD hu64) (pe_ix ix_tup (pe_fld (pv 0) rfl) (pe_un un_neg (pe_int)) (fun _ _ => rfl)) (pe_ix ix_tup (pe_fld (pv 1) rfl) (pe_un un_neg (pe_int)) (fun _ _ => rfl)) (nomark _))))), ?_⟩
    obtain ⟨dx, S, M, sv, mv, hO, hS, hM, dS, dM⟩ := hA.ob
    obtain ⟨dy, S', M', sv', mv', hO', hS', hM', dS', dM'⟩ := hB.ob
    have l1 := kA.l1
    have l2 := kB.l1
    obtain ⟨u, hu, hD⟩ := last_at dS (by omega)
    obtain ⟨u', hu', hD'⟩ := last_at dS' (by omega)
    refine ⟨.ref b, rfl, .ref b, .ref cB, .ref cB, .ref cB, true, rfl, .own cB, TyX.base (.ins hO' T.cl T.ca T.cn T.ct T.cm), T.ki, _, rfl, iteT ?_⟩
    refine ⟨.ref a, rfl, a, cB, dx, _, .ref S, rfl, hO, T.cl, T.nS, fB_states S M z1, _, rfl, S, _, _, u, rfl, rfl, hS, hu, ?_⟩
    refine ⟨.ref b, rfl, b, cB, dy, _, .ref S', rfl, hO', T.cl, T.nS, fB_states S' M' z2, _, rfl, S', _, _, u', rfl, rfl, hS', hu', ?_⟩
    exact ⟨dI2 (lastI i1), dI2 (lastI i2), hD, hD', shaped_dI2 _, shaped_dI2 _, q⟩
end
end Pv
namespace Pv
open PySem PySem.Spec PyProof.Rows L2
abbrev sLi : Stmt := topS 77
theorem scLi : FnScope ["_law_stream_here", "_law_many", "_law_queue", "_law_found", "_law_k"] ["_law_stream_here", "_law_many"] (defScope sLi) := ⟨rfl, rfl, rfl, by decide +kernel, rfl, by decide +kernel, by decide +kernel⟩
abbrev sSz : Stmt := topS 78
theorem scSz : FnScope ["_law_stream_here"] ["_law_stream_here"] (defScope sSz) := ⟨rfl, rfl, rfl, by decide +kernel, rfl, by decide +kernel, by decide +kernel⟩
abbrev sIn : Stmt := topS 79
theorem scIn : FnScope ["_law_stream_here", "_law_posts", "_law_groups", "_law_many", "_law_capacities", "_law_rows", "_law_k"] ["_law_stream_here", "_law_posts", "_law_groups"] (defScope sIn) := ⟨rfl, rfl, rfl, by decide +kernel, rfl, by decide +kernel, by decide +kernel⟩
theorem upTo_nd (n : Nat) : (upTo n).Nodup := by
  unfold upTo List.Nodup
  rw [List.pairwise_map]
  exact (List.nodup_range (n := n)).imp fun h e => h (by omega)
theorem perm_er : ∀ (l : List Int) (k : Nat) (h : k < l.length), (l[k] :: l.eraseIdx k).Perm l
  | [], _, h => by simp at h
  | a :: l, 0, _ => by simp
  | a :: l, k + 1, h => by
    have ih := perm_er l k (by simpa using h)
    simp only [List.getElem_cons_succ, List.eraseIdx_cons_succ]
    exact (List.Perm.swap _ _ _).trans (List.Perm.cons _ ih)
theorem nod_step {ms l : List Int} {k : Nat} (h : k < l.length) (hn : (ms ++ l).Nodup) : ((ms ++ [l[k]]) ++ l.eraseIdx k).Nodup := by
  rw [List.append_assoc]
  exact (List.Perm.append_left ms (perm_er l k h)).symm.nodup hn
def spLi (K : PySem.W.Frag) : Sp := fun vs H Q _ => ∃ (st : Addr) (t n : Nat), vs = [.ref st, .int (n : Nat)] ∧ DT H st t ∧ t + 20 ≤ 1000000 ∧ n ≤ 6 ∧
  ∀ (H' : Hp) (p : Addr) (ps : List Int), Dp K H' (.ref p) (dI ps) → (∀ x ∈ ps, 0 ≤ x ∧ x < (n : Int)) → ps.Nodup → ps.length ≤ n → DT H' st (t + 8) → Ex1 st H H' → Q (.ref p) H'
def spSz (K : PySem.W.Frag) : Sp := fun vs H Q _ => ∃ (st : Addr) (t : Nat), vs = [.ref st] ∧ DT H st t ∧ t + 20 ≤ 1000000 ∧
  ∀ (H' : Hp) (d : Int), 1 ≤ d → d ≤ 10 ^ 12 → DT H' st (t + 4) → Ex1 st H H' → Q (.int d) H'
def spIn (K : PySem.W.Frag) : Sp := fun vs H Q _ => ∃ (st : Addr) (t : Nat) (m g : Int), vs = [.ref st, .int m, .int g] ∧ DT H st t ∧ t + 400 ≤ 1000000 ∧ 1 ≤ m ∧ m ≤ 6 ∧ 1 ≤ g ∧ g ≤ 10 ∧
  ∀ (H' : Hp) (i : Addr) (x : Ins), Dp K H' (.ref i) (dI2 x) → InOk x.1 x.2 → DT H' st (t + 200) → Ex1 st H H' → Q (.ref i) H'
section
variable {P : Program} {w : World} {K : PySem.W.Frag} {mg : Str → Option Value} {base : Heap}
set_option maxHeartbeats 16000000 in
theorem ok_Li {f fTa : Addr} {fd fdTa : FuncData} (F : Fun K "_law_list" "_law_list" sLi f fd)
    (FTa : Fun K "_law_take" "_law_take" sTa fTa fdTa) (bTa : Binds K fdTa ["_law_stream_here", "_law_many"] []) (gTa : mg "_law_take" = some (.ref fTa)) (GTa : FnOk P w K mg base CX0 1 fTa fdTa ["_law_stream_here", "_law_many"] spTa)
    (m_list : mg "list" = none) (m_range : mg "range" = none) (m_len : mg "len" = none) (m_tuple : mg "tuple" = none) :
    FnOk P w K mg base CX0 2 f fd ["_law_stream_here", "_law_many"] (spLi K) := by
  refine F.ok scLi (fun vs H Q E h => ?_) (fun cdv A outer s H vs Q E hr h => ?_)
  · obtain ⟨st, t, n, rfl, _⟩ := h; rfl
  · obtain ⟨st, t, n, rfl, hd, ht, hn, q⟩ := h
    refine ⟨_, pss_cons (ps_par (i := 2) (j := 3) rfl scLi.nd rfl rfl (by decide) rfl rfl (pa_cons (pe_listRg rfl (by rfl) m_list (prg_1 (by rfl) m_range (pv 1))) (pa_cons (pe_lst (pa_nil)) pa_nil)) rfl)
      (pss_cons (ps_for PassesOwn.never rfl (pi_range1 (by rfl) m_range (pa_cons (pe_call GTa (hr.mono (by omega)) (by rfl) gTa FTa.kp bTa .nil pass0 (pa_cons (pv 0) (pa_cons (pe_op op_add (pv 1) (pe_int)) pa_nil))) pa_nil)) (pg_name (i := 4) scLi.nd rfl (.inl rfl))
        (pss_one (ps_expr (pe_bm PySem.F.plainAttrs_list PySem.F.slot_list_append PySem.F.type_list_append mt_append (pv 3) (pa_cons (pe_bm PySem.F.plainAttrs_list PySem.F.slot_list_pop PySem.F.type_list_pop mt_popAt (pv 2) (pa_cons (pe_call GTa (hr.mono (by omega)) (by rfl) gTa FTa.kp bTa .nil pass0 (pa_cons (pv 0) (pa_cons (pe_callB call_lenQ (by rfl) m_len PySem.boot_len (pa_cons (pv 2) pa_nil)) pa_nil))) pa_nil)) pa_nil)))))
      (pss_one (ps_ret (pe_callTy call_tupQ (by rfl) m_tuple (by decide +kernel) (pa_cons (pv 3) pa_nil))))), ?_⟩
    refine ⟨.int (n : Nat), rfl, n, rfl, ⟨by omega, by omega, by omega, by omega⟩, fun Lq nLq => ⟨Nat.zero_le _, fun Fo nFo => ⟨_, _, rfl, ?_⟩⟩⟩
    have oq : Lq ≠ st := hd.off nLq
    have d1 := hd.new nLq (o := .lst (rgV 0 n))
    have oF : Fo ≠ st := d1.off nFo
    have fFo : H Fo = none := freeOf nFo
    have nqF : Lq ≠ Fo := ne_of_none upd_same nFo
    have d2 := d1.new nFo (o := .lst [])
    have x2 : Ex1 st H (upd (upd H Lq (.lst (rgV 0 n))) Fo (.lst [])) := (Ex1.of (sameNew nLq)).trans (Ex1.of (sameNew nFo))
    have eq2 : (upd (upd H Lq (.lst (rgV 0 n))) Fo (.lst [])) Lq = some (.lst ((upTo n).map V.int)) := by rw [← rgV_upTo]; exact upNew nFo upd_same
    have eF2 : (upd (upd H Lq (.lst (rgV 0 n))) Fo (.lst [])) Fo = some (.lst []) := upd_same
    generalize upd (upd H Lq (.lst (rgV 0 n))) Fo (.lst []) = H2 at d2 x2 eq2 eF2 ⊢
    have lrg : (upTo n).length = n := upTo_len n
    refine ⟨.ref st, rfl, .int (n : Nat), rfl, _, _, rfl, rfl, st, t, _, rfl, d2, by omega, by omega, by omega, fun H3 d d0 dl D3 X3 => ?_⟩
    refine ⟨d, rfl, by omega, by omega, for_it (walk_range (lo := 0) (n := d.toNat))
      (fun k σ Hx => ∃ (y4 : Option V) (ls ms : List Int), σ = [some (.ref st), some (.int (n : Nat)), some (.ref Lq), some (.ref Fo), y4] ∧ DT Hx st (t + 1 + k) ∧ Ex1 st H Hx ∧ Hx Lq = some (.lst (ls.map V.int)) ∧ Hx Fo = some (.lst (ms.map V.int)) ∧ ms.length = k ∧ ls.length + k = n ∧ (∀ x ∈ ms, 0 ≤ x ∧ x < (n : Int)) ∧ (∀ x ∈ ls, 0 ≤ x ∧ x < (n : Int)) ∧ (ms ++ ls).Nodup)
      ⟨none, upTo n, [], rfl, D3, x2.trans X3, X3 _ _ eq2 oq, X3 _ _ eF2 oF, rfl, by omega, fun x h => by simp at h, fun x h => upTo_mem h, upTo_nd n⟩ (fun _ _ _ _ _ => trivial) ?_ ?_⟩
    · rintro k v σ Hx Hx' hk ⟨y4, ls, ms, rfl, Dx, Xx, eL, eF, lm, ll, bm, bl, nd⟩ ⟨rfl, rfl⟩
      dsimp only
      refine ⟨.ref Fo, rfl, .inl ⟨rfl, _, SqL.of eF⟩, .ref Lq, rfl, .inl ⟨rfl, _, SqL.of eL⟩, .ref st, rfl, .ref Lq, rfl, Lq, _, rfl, .inl (SqL.of eL), st, _, _, rfl, Dx, by omega, by rw [List.length_map]; omega, by rw [List.length_map]; omega, fun H4 e e0 e1 D4 X4 => ?_⟩
      have eL4 := X4 _ _ eL oq
      have eF4 := X4 _ _ eF oF
      rw [List.length_map] at e1
      have hk2 : e.toNat < ls.length := by omega
      have eF5 : (upd H4 Lq (.lst ((ls.map V.int).eraseIdx e.toNat))) Fo = some (.lst (ms.map V.int)) := by rw [upd_ne nqF.symm]; exact eF4
      refine ⟨Lq, _, e, e.toNat, .int ls[e.toNat], rfl, rfl, eL4, by omega, by omega, seqIndex_of e0 (by rw [List.length_map]; exact e1), by rw [List.getElem?_map, List.getElem?_eq_getElem hk2]; rfl, Fo, _, _, rfl, rfl, eF5, ?_, ?_⟩
      · rw [List.length_map]; exact small (by omega)
      refine ⟨_, ls.eraseIdx e.toNat, ms ++ [ls[e.toNat]], rfl, (D4.put oq).put oF, ((Xx.trans X4).put nLq).put fFo, ?_, ?_, by simp; omega, ?_, ?_, ?_, nod_step hk2 nd⟩
      · rw [upd_ne nqF, upd_same, erase_map]
      · rw [upd_same, List.map_append]; rfl
      · rw [List.length_eraseIdx_of_lt hk2]; omega
      · intro x hx
        rcases List.mem_append.mp hx with h | h
        · exact bm x h
        · rw [List.mem_singleton.mp h]; exact bl _ (List.getElem_mem hk2)
      · exact fun x hx => bl x (List.mem_of_mem_eraseIdx hx)
    rintro σ H5 ⟨y4, ls, ms, rfl, D5, X5, eL5, eF5, lm, ll, bm, bl, nd⟩
    refine ⟨.ref Fo, rfl, Fo, _, rfl, .inl ⟨SqL.of eF5, fun Tp nTp => ?_⟩⟩
    exact q _ Tp ms (.tup (SqT.of upd_same) (dp_ints ms)) bm (List.nodup_append.mp nd).1 (by omega) ((D5.new nTp).mono (by omega)) (X5.trans (Ex1.of (sameNew nTp)))
set_option maxHeartbeats 16000000 in
theorem ok_Sz {f fTa : Addr} {fd fdTa : FuncData} (F : Fun K "_law_size" "_law_size" sSz f fd)
    (FTa : Fun K "_law_take" "_law_take" sTa fTa fdTa) (bTa : Binds K fdTa ["_law_stream_here", "_law_many"] []) (gTa : mg "_law_take" = some (.ref fTa)) (GTa : FnOk P w K mg base CX0 1 fTa fdTa ["_law_stream_here", "_law_many"] spTa)
     :
    FnOk P w K mg base CX0 2 f fd ["_law_stream_here"] (spSz K) := by
  refine F.ok scSz (fun vs H Q E h => ?_) (fun cdv A outer s H vs Q E hr h => ?_)
  · obtain ⟨st, t, rfl, _⟩ := h; rfl
  · obtain ⟨st, t, rfl, hd, ht, q⟩ := h
    refine ⟨_, pss_one (ps_ret (pe_ix ix_list (pe_lst (pa_cons (pe_int) (pa_cons (pe_op op_add (pe_int) (pe_call GTa (hr.mono (by omega)) (by rfl) gTa FTa.kp bTa .nil pass0 (pa_cons (pv 0) (pa_cons (pe_int) pa_nil)))) (pa_cons (pe_op op_add (pe_int) (pe_call GTa (hr.mono (by omega)) (by rfl) gTa FTa.kp bTa .nil pass0 (pa_cons (pv 0) (pa_cons (pe_int) pa_nil)))) (pa_cons (pe_op op_add (pe_int) (pe_call GTa (hr.mono (by omega)) (by rfl) gTa FTa.kp bTa .nil pass0 (pa_cons (pv 0) (pa_cons (pe_op op_pow (pe_int) (pe_int)) pa_nil)))) (pa_cons (pe_op op_pow (pe_int) (pe_int)) pa_nil)))))) (pe_call GTa (hr.mono (by omega)) (by rfl) gTa FTa.kp bTa .nil pass0 (pa_cons (pv 0) (pa_cons (pe_int) pa_nil))) (fun _ _ => rfl))), ?_⟩
    refine ⟨.ref st, rfl, st, _, 4, rfl, hd, by omega, by decide, by decide, fun H1 a1 b1 c1 D1 X1 => ⟨_, _, rfl, rfl, ?_⟩⟩
    refine ⟨.ref st, rfl, st, _, 4, rfl, D1, by omega, by decide, by decide, fun H2 a2 b2 c2 D2 X2 => ⟨_, _, rfl, rfl, ?_⟩⟩
    refine ⟨.ref st, rfl, _, _, rfl, rfl, ⟨by decide, by decide, by decide⟩, st, _, _, rfl, D2, by omega, by decide, by decide, fun H3 a3 b3 c3 D3 X3 => ⟨_, _, rfl, rfl, ?_⟩⟩
    refine ⟨_, _, rfl, rfl, ⟨by decide, by decide, by decide⟩, (show (5 : Nat) ≤ sizeLine by decide), fun Z nZ => ⟨.ref st, rfl, st, _, 5, rfl, D3.new nZ, by omega, by decide, by decide, fun H4 k k0 k1 D4 X4 => ?_⟩⟩
    have oZ := D3.off nZ
    have e4 := X4 _ _ upd_same oZ
    have hp : (10 : Int) ^ (12 : Int).toNat = 1000000000000 := by decide
    have hp2 : (10 : Int) ^ 12 = 1000000000000 := by decide
    rw [hp] at c3
    have e4 : H4 Z = some (.lst [V.int 1, V.int (1 + a1), V.int (1 + a2), V.int (1 + a3), V.int 1000000000000]) := e4
    obtain ⟨un, hun, ub⟩ : ∃ un : Int, atI [V.int 1, V.int (1 + a1), V.int (1 + a2), V.int (1 + a3), V.int 1000000000000] k = some (.int un) ∧ (1 ≤ un ∧ un ≤ 1000000000000) := by
      obtain h | h | h | h | h : k = 0 ∨ k = 1 ∨ k = 2 ∨ k = 3 ∨ k = 4 := by omega
      · exact ⟨1, by rw [h]; rfl, by decide⟩
      · exact ⟨1 + a1, by rw [h]; rfl, by omega⟩
      · exact ⟨1 + a2, by rw [h]; rfl, by omega⟩
      · exact ⟨1 + a3, by rw [h]; rfl, by omega⟩
      · exact ⟨1000000000000, by rw [h]; rfl, by decide⟩
    refine ⟨Z, _, _, .int un, rfl, rfl, SqL.of e4, hun, ?_⟩
    exact q _ _ ub.1 (by rw [hp2]; exact ub.2) D4 (X1.trans (X2.trans (X3.trans ((Ex1.of (sameNew nZ)).trans X4))))
set_option maxHeartbeats 16000000 in
theorem ok_In {f fTa fSz fLi : Addr} {fd fdTa fdSz fdLi : FuncData} (F : Fun K "_law_instance" "_law_instance" sIn f fd)
    (FTa : Fun K "_law_take" "_law_take" sTa fTa fdTa) (bTa : Binds K fdTa ["_law_stream_here", "_law_many"] []) (gTa : mg "_law_take" = some (.ref fTa)) (GTa : FnOk P w K mg base CX0 1 fTa fdTa ["_law_stream_here", "_law_many"] spTa)
    (FSz : Fun K "_law_size" "_law_size" sSz fSz fdSz) (bSz : Binds K fdSz ["_law_stream_here"] []) (gSz : mg "_law_size" = some (.ref fSz)) (GSz : FnOk P w K mg base CX0 2 fSz fdSz ["_law_stream_here"] (spSz K))
    (FLi : Fun K "_law_list" "_law_list" sLi fLi fdLi) (bLi : Binds K fdLi ["_law_stream_here", "_law_many"] []) (gLi : mg "_law_list" = some (.ref fLi)) (GLi : FnOk P w K mg base CX0 2 fLi fdLi ["_law_stream_here", "_law_many"] (spLi K))
    (m_range : mg "range" = none) (m_tuple : mg "tuple" = none) :
    FnOk P w K mg base CX0 3 f fd ["_law_stream_here", "_law_posts", "_law_groups"] (spIn K) := by
  refine F.ok scIn (fun vs H Q E h => ?_) (fun cdv A outer s H vs Q E hr h => ?_)
  · obtain ⟨st, t, m, g, rfl, _⟩ := h; rfl
  · obtain ⟨st, t, m, g, rfl, hd, ht, m1, m6, g1, g10, q⟩ := h
    refine ⟨_, pss_cons (ps_set (i := 3) scIn.nd rfl (.inr rfl) (pe_op op_add (pe_int) (pe_call GTa (hr.mono (by omega)) (by rfl) gTa FTa.kp bTa .nil pass0 (pa_cons (pv 0) (pa_cons (pv 1) pa_nil)))))
      (pss_cons (ps_set (i := 4) scIn.nd rfl (.inl rfl) (pe_callTy call_tupQ (by rfl) m_tuple (by decide +kernel) (pa_cons (pe_lc (own := [("_law_k", 6)]) (g := gName 6) (tt := tYes) (te := tCall (spSz K) [] E0 (tCons (tVar 0) tNil)) rfl scIn.nd (pi_range1 (by rfl) m_range (pa_cons (pv 3) pa_nil)) (blkOk_by (N := ["_law_stream_here", "_law_posts", "_law_groups", "_law_many", "_law_capacities", "_law_rows", "_law_k"]) (sc := defScope sIn) (by decide +kernel)) (fun _ _ _ _ _ => pg_name (i := 6) scIn.nd rfl (.inl rfl)) (fun _ _ _ _ _ => pts_nil) (fun _ _ _ _ _ => pe_call GSz (hr.mono (by omega)) (by rfl) gSz FSz.kp bSz .nil pass0 (pa_cons (pv 0) pa_nil))) pa_nil)))
      (pss_cons (ps_setLc (i := 5) (own := [("_law_k", 6)]) (g := gName 6) (tt := tYes) (te := tTup (tCons (tCall (spLi K) [] E0 (tCons (tVar 0) (tCons (tVar 3) tNil))) (tCons (tCall (spSz K) [] E0 (tCons (tVar 0) tNil)) tNil))) rfl scIn.nd rfl rfl (sw_true rfl rfl rfl (by decide +kernel)) (pi_range1 (by rfl) m_range (pa_cons (pe_op op_add (pe_int) (pe_call GTa (hr.mono (by omega)) (by rfl) gTa FTa.kp bTa .nil pass0 (pa_cons (pv 0) (pa_cons (pv 2) pa_nil)))) pa_nil)) (blkOk_by (N := ["_law_stream_here", "_law_posts", "_law_groups", "_law_many", "_law_capacities", "_law_rows", "_law_k"]) (sc := defScope sIn) (by decide +kernel)) (fun _ _ _ _ _ => pg_name (i := 6) scIn.nd rfl (.inl rfl)) (fun _ _ _ _ _ => pts_nil) (fun _ _ _ _ _ => pe_tup (pa_cons (pe_call GLi (hr.mono (by omega)) (by rfl) gLi FLi.kp bLi .nil pass0 (pa_cons (pv 0) (pa_cons (pv 3) pa_nil))) (pa_cons (pe_call GSz (hr.mono (by omega)) (by rfl) gSz FSz.kp bSz .nil pass0 (pa_cons (pv 0) pa_nil)) pa_nil))))
      (pss_one (ps_ret (pe_tup (pa_cons (pv 4) (pa_cons (pe_callTy call_tupQ (by rfl) m_tuple (by decide +kernel) (pa_cons (pv 5) pa_nil)) pa_nil))))))), ?_⟩
    refine ⟨.ref st, rfl, .int m, rfl, st, _, _, rfl, hd, by omega, by omega, by omega, fun H1 d1 a0 a1 D1 X1 => ⟨_, _, rfl, rfl, ?_⟩⟩
    dsimp only
    obtain ⟨n, hn, nb⟩ : ∃ n : Nat, 1 + d1 = (n : Int) ∧ (1 ≤ n ∧ n ≤ 6) := ⟨(1 + d1).toNat, by omega, by omega⟩
    rw [hn]
    have h12 : (10 : Int) ^ 12 = 1000000000000 := by decide
    refine ⟨.int (n : Nat), rfl, n, rfl, by omega, by omega, fun D nD => lc_it (walk_range (lo := 0) (n := ((n : Nat) : Int).toNat))
      (fun k Hx => ∃ cs : List Int, DT Hx st (t + 1 + 4 * k) ∧ Ex1 st H Hx ∧ Hx D = some (.lst (cs.map V.int)) ∧ cs.length = k ∧ ∀ c ∈ cs, 1 ≤ c ∧ c ≤ 10 ^ 12)
      ⟨[], D1.new nD, X1.trans (Ex1.of (sameNew nD)), upd_same, rfl, fun c h => by simp at h⟩ (fun _ _ _ _ => trivial) ?_ ?_⟩
    · rintro k v Hx Hx' hk ⟨cs, Dx, Xx, eD, lc, bc⟩ ⟨rfl, rfl⟩
      have hk : k < ((n : Nat) : Int).toNat := hk
      refine ⟨rfl, .ref st, rfl, st, _, rfl, Dx, by omega, fun H3 d b0 b1 D3 X3 => ?_⟩
      have oD := D1.off nD
      have e3 := X3 _ _ eD oD
      refine ⟨_, e3, by rw [List.length_map]; exact small (by omega), cs ++ [d], (D3.put oD).mono (by omega), (Xx.trans X3).put (X1.nil D1 nD), by rw [upd_same, List.map_append]; rfl, by simp; omega, fun c hc => ?_⟩
      rcases List.mem_append.mp hc with h | h
      · exact bc c h
      · rw [List.mem_singleton.mp h]; exact ⟨b0, b1⟩
    rintro H2 ⟨cs, D2, X2, eD, lc, bc⟩
    have lc : cs.length = n := by omega
    refine ⟨D, _, rfl, .inl ⟨SqL.of eD, fun Ca nCa => ?_⟩⟩
    have D3 := D2.new nCa (o := .tup (cs.map V.int))
    have X3 := X2.trans (Ex1.of (sameNew nCa (o := .tup (cs.map V.int))))
    have eC : SqT K (upd H2 Ca (.tup (cs.map V.int))) Ca (cs.map V.int) := SqT.of upd_same
    generalize upd H2 Ca (.tup (cs.map V.int)) = H3 at D3 X3 eC ⊢
    refine ⟨.ref st, rfl, .int g, rfl, st, _, _, rfl, D3, by omega, by omega, by omega, fun H4 d4 b0 b1 D4 X4 => ⟨_, _, rfl, rfl, ?_⟩⟩
    dsimp only
    obtain ⟨gn, hgn, gb⟩ : ∃ gn : Nat, 1 + d4 = (gn : Int) ∧ (1 ≤ gn ∧ gn ≤ 10) := ⟨(1 + d4).toNat, by omega, by omega⟩
    rw [hgn]
    have dC4 : Dp K H4 (.ref Ca) (dI cs) := (X4.tup D3).dp _ _ (to_dI _) (.tup eC (dp_ints cs))
    refine ⟨gn, rfl, by omega, by omega, fun E nE => lc_it (walk_range (lo := 0) (n := ((gn : Nat) : Int).toNat))
      (fun k Hx => ∃ (gs : List Gp) (vs : List V), DT Hx st (t + 26 + 12 * k) ∧ Ex1 st H Hx ∧ Hx E = some (.lst vs) ∧ Dp K Hx (.ref Ca) (dI cs) ∧ DpAll K Hx vs (gs.map dGrp) ∧ gs.length = k ∧ ∀ g ∈ gs, (g.1.length ≤ n ∧ (∀ x ∈ g.1, 0 ≤ x ∧ x < (n : Int)) ∧ g.1.Nodup) ∧ 1 ≤ g.2 ∧ g.2 ≤ 10 ^ 12)
      ⟨[], [], (D4.new nE).mono (by omega), (X3.trans X4).trans (Ex1.of (sameNew nE)), upd_same, (TupK.of (sameNew nE)).dp _ _ (to_dI _) dC4, .nil, rfl, fun c h => by simp at h⟩ (fun _ _ _ _ => trivial) ?_ ?_⟩
    · rintro k v Hx Hx' hk ⟨gs, vs, Dx, Xx, eE, dC, dG, lg, bg⟩ ⟨rfl, rfl⟩
      have hk : k < ((gn : Nat) : Int).toNat := hk
      have oE := D4.off nE
      have fE : H E = none := (X3.trans X4).nil D4 nE
      have lvs := DpAll.len dG
      rw [List.length_map] at lvs
      refine ⟨rfl, .ref st, rfl, .int (n : Nat), rfl, st, _, n, rfl, Dx, by omega, by omega, fun H5 p ps hp bp ndp lp D5 X5 => ?_⟩
      refine ⟨.ref st, rfl, st, _, rfl, D5, by omega, fun H6 d c0 c1 D6 X6 => ⟨(show (2 : Nat) ≤ sizeLine by decide), fun T nT => ?_⟩⟩
      have X56 := X5.trans X6
      have tk := X56.tup Dx
      have sT := sameNew (o := .tup [.ref p, .int d]) nT
      have e6 := sT _ _ (X56 _ _ eE oE)
      have dp6 := (TupK.of sT).dp _ _ (to_dI _) ((X6.tup D5).dp _ _ (to_dI _) hp)
      have dC6 := (TupK.of sT).dp _ _ (to_dI _) (tk.dp _ _ (to_dI _) dC)
      have dG6 := (TupK.of sT).dpAll _ _ (to_grps gs) (tk.dpAll _ _ (to_grps gs) dG)
      have dT : Dp K (upd H6 T (.tup [.ref p, .int d])) (.ref T) (dGrp (ps, d)) := .tup (SqT.of upd_same) (.cons dp6 (.cons (.int d) .nil))
      have D7 := D6.new nT (o := .tup [.ref p, .int d])
      have X7 := (Xx.trans X56).trans (Ex1.of sT)
      generalize upd H6 T (.tup [.ref p, .int d]) = H7 at e6 dp6 dC6 dG6 dT D7 X7 ⊢
      have tkE := TupK.put e6 (o := .lst (vs ++ [.ref T]))
      refine ⟨_, e6, small (by omega), gs ++ [(ps, d)], vs ++ [.ref T], (D7.put oE).mono (by omega), X7.put fE, upd_same, tkE.dp _ _ (to_dI _) dC6, ?_, by simp; omega, fun g hg => ?_⟩
      · rw [List.map_append]
        exact DpAll.snoc (tkE.dpAll _ _ (to_grps gs) dG6) (tkE.dp _ _ (to_dGrp _) dT)
      · rcases List.mem_append.mp hg with h | h
        · exact bg g h
        · rw [List.mem_singleton.mp h]; exact ⟨⟨lp, bp, ndp⟩, c0, c1⟩
    rintro H5 ⟨gs, vs, D5, X5, eE, dC, dG, lg, bg⟩
    have lg : gs.length = gn := by omega
    refine ⟨.ref Ca, rfl, .ref E, rfl, E, _, rfl, .inl ⟨SqL.of eE, fun R nR => ⟨(show (2 : Nat) ≤ sizeLine by decide), fun I nI => ?_⟩⟩⟩
    have sR := sameNew (o := .tup vs) nR
    have dR : Dp K (upd H5 R (.tup vs)) (.ref R) (.tuple (gs.map dGrp)) := .tup (SqT.of upd_same) ((TupK.of sR).dpAll _ _ (to_grps gs) dG)
    have dC2 := (TupK.of sR).dp _ _ (to_dI _) dC
    have sI := sameNew (o := .tup [.ref Ca, .ref R]) nI
    have ok : InsOk cs gs := ⟨by omega, by omega, bc, by omega, by omega, fun g hg => by
      have b := bg g hg
      exact ⟨by omega, fun p hp => by have := b.1.2.1 p hp; omega, b.2⟩⟩
    have io : InOk cs gs := ⟨ok, fun g hg => (bg g hg).1.2.2⟩
    exact q _ I (cs, gs) (.tup (SqT.of upd_same) (.cons ((TupK.of sI).dp _ _ (to_dI _) dC2) (.cons ((TupK.of sI).dp _ _ (show tupOnlyAll (gs.map dGrp) = true from to_grps gs) dR) .nil))) io (((D5.new nR).new nI).mono (by omega)) ((X5.trans (Ex1.of sR)).trans (Ex1.of sI))
end
end Pv
namespace Pv
open PySem PySem.Spec PyProof.Rows L2
abbrev sOd : Stmt := topS 76
theorem scOd : FnScope ["_law_stream_here", "_law_some"] ["_law_stream_here"] (defScope sOd) := ⟨rfl, rfl, rfl, by decide +kernel, rfl, by decide +kernel, by decide +kernel⟩
abbrev sSp : Stmt := topS 90
theorem scSp : FnScope ["_law_stream_here", "_law_edit", "_law_again", "_law_spot", "_law_value"] ["_law_stream_here", "_law_edit"] (defScope sSp) := ⟨rfl, rfl, rfl, by decide +kernel, rfl, by decide +kernel, by decide +kernel⟩
abbrev sSE : Stmt := topS 89
theorem scSE : FnScope ["_law_stream_here", "_law_instance_here", "_law_words", "_law_word", "_law_post", "_law_group", "_law_posts", "_law_number"] ["_law_stream_here", "_law_instance_here", "_law_words"] (defScope sSE) := ⟨rfl, rfl, rfl, by decide +kernel, rfl, by decide +kernel, by decide +kernel⟩
abbrev sDo : Stmt := topS 86
theorem scDo : FnScope ["_law_bench", "_law_edit", "_law_word", "_law_things"] ["_law_bench", "_law_edit"] (defScope sDo) := ⟨rfl, rfl, rfl, by decide +kernel, rfl, by decide +kernel, by decide +kernel⟩
theorem Lasts.of1 {st : Addr} {t : Nat} {H H' : Hp} (d : DT H st t) (x : Ex1 st H H') : Lasts st st H H' := by
  refine ⟨x.tup d, fun a xs e n _ => x _ _ e n, fun a kvs e => x _ _ e fun z => ?_⟩
  obtain ⟨r, m, u, h, _⟩ := d
  rw [z, h] at e; cases e
theorem EdIn.lasts {K : PySem.W.Frag} {H H' : Hp} {st r ed : Addr} {w : Nat} {v1 v2 : V} {d1 d2 : PyData} (h : EdIn K H st r ed w v1 v2 d1 d2) (l : Lasts st r H H') : EdIn K H' st r ed w v1 v2 d1 d2 :=
  ⟨h.w7, l.tk.sq h.sq, h.h1.lasts l, fun z => (h.h2 z).lasts l⟩
/-- a tuple, if it is one, is not long, and what is written of it is short -/
structure Nw (d : PyData) : Prop where
  ln : ∀ ds, d = .tuple ds → ds.length ≤ 50
  ft : Fit (10 ^ 30) 2 600 d
theorem nw_int {i : Int} (h : i.natAbs ≤ 10 ^ 30) : Nw (.int i) := ⟨fun _ z => (by cases z), Fit.int h (by decide)⟩
theorem nw_none : Nw .none := ⟨fun _ z => (by cases z), by simp [fit], by simp [PyData.depth], by simp [wt]⟩
theorem nw_dI {l : List Int} (h : l.length ≤ 6) (hb : ∀ x ∈ l, x.natAbs ≤ 10 ^ 30) : Nw (dI l) := by
  refine ⟨fun ds z => ?_, (fit_dI hb).mono (Nat.le_refl _) (by omega) (by omega)⟩
  have : l.map PyData.int = ds := PyData.tuple.inj z
  rw [← this, List.length_map]; omega
def oddB : List PyData := [.none, .bool true, .bool false, .int (-1), .int (10 ^ (29 : Int).toNat), .str "", .str "0", .tuple [], .list [], .dict [], .tuple [.int 0], .list [.int 0], .tuple [.bool true], .int (10 ^ (12 : Int).toNat + 1), .int 0, .int 6]
theorem odd_nw : ∀ d ∈ oddB, Nw d := by
  intro d hd
  have hl : ∀ ds, d = .tuple ds → ds.length ≤ 50 := by
    intro ds e
    subst e
    simp only [oddB, List.mem_cons, List.not_mem_nil, or_false, PyData.tuple.injEq, reduceCtorEq, false_or, or_false] at hd
    rcases hd with rfl | rfl | rfl <;> decide
  refine ⟨hl, ?_⟩
  simp only [oddB, List.mem_cons, List.not_mem_nil, or_false] at hd
  rcases hd with rfl | rfl | rfl | rfl | rfl | rfl | rfl | rfl | rfl | rfl | rfl | rfl | rfl | rfl | rfl | rfl
  · exact ⟨by simp [fit], by simp [PyData.depth], by simp [wt]⟩
  · exact ⟨by simp [fit], by simp [PyData.depth], by simp [wt]⟩
  · exact ⟨by simp [fit], by simp [PyData.depth], by simp [wt]⟩
  · exact Fit.int (by decide) (by decide)
  · exact Fit.int (by decide) (by decide)
  · exact ⟨by simp only [fit]; decide +kernel, by simp [PyData.depth], by simp [wt]⟩
  · exact ⟨by simp only [fit]; decide +kernel, by simp [PyData.depth], by simp [wt]⟩
  · exact ⟨by simp [fit, fitAll], by simp [PyData.depth, PyData.depthAll], by simp [wt, wtAll]⟩
  · exact ⟨by simp [fit, fitAll], by simp [PyData.depth, PyData.depthAll], by simp [wt, wtAll]⟩
  · exact ⟨by simp only [fit]; exact ⟨by decide +kernel, by simp [PyData.showable, PyData.showableKv]⟩, by simp [PyData.depth, PyData.depthKv], by simp [wt]⟩
  · exact ⟨by simp [fit, fitAll], by simp [PyData.depth, PyData.depthAll], by simp [wt, wtAll]⟩
  · exact ⟨by simp [fit, fitAll], by simp [PyData.depth, PyData.depthAll], by simp [wt, wtAll]⟩
  · exact ⟨by simp [fit, fitAll], by simp [PyData.depth, PyData.depthAll], by simp [wt, wtAll]⟩
  · exact Fit.int (by decide) (by decide)
  · exact Fit.int (by decide) (by decide)
  · exact Fit.int (by decide) (by decide)
def spOd (K : PySem.W.Frag) : Sp := fun vs H Q _ => ∃ (st : Addr) (t : Nat), vs = [.ref st] ∧ DT H st t ∧ t + 20 ≤ 1000000 ∧
  ∀ (H' : Hp) (v : V) (d : PyData), DT H' st (t + 1) → Ex1 st H H' → Dq K st st H' v d → Nw d → Q v H'
def spSp (K : PySem.W.Frag) : Sp := fun vs H Q _ => ∃ (st ed : Addr) (t w : Nat) (v1 v2 : V) (d1 d2 : PyData), vs = [.ref st, .ref ed] ∧ DT H st t ∧ t + 100 ≤ 1000000 ∧ EdIn K H st st ed w v1 v2 d1 d2 ∧ Nw d1 ∧ Nw d2 ∧
  ∀ (H' : Hp) (ed' : Addr) (v1' v2' : V) (d1' d2' : PyData), EdIn K H' st st ed' w v1' v2' d1' d2' → DT H' st (t + 20) → Ex1 st H H' → Nw d1' → Nw d2' → Q (.ref ed') H'
def wdV (ws : List Nat) : List V := ws.map fun w => .str (edW w)
def spWo (K : PySem.W.Frag) : Sp := fun vs H Q _ => vs = [] ∧ ∀ (H' : Hp) (p : Addr), Same H H' → H p = none → H' p = some (.lst (wdV [0, 1, 2, 3, 4, 5, 6])) → Q (.ref p) H'
def spSE (K : PySem.W.Frag) : Sp := fun vs H Q _ => ∃ (st i wl : Addr) (t : Nat) (x : Ins) (ws : List Nat), vs = [.ref st, .ref i, .ref wl] ∧ DT H st t ∧ t + 100 ≤ 1000000 ∧ Dp K H (.ref i) (dI2 x) ∧ InOk x.1 x.2 ∧ H wl = some (.lst (wdV ws)) ∧ wl ≠ st ∧ (∀ w ∈ ws, w < 7) ∧ 0 < ws.length ∧ ws.length ≤ 7 ∧
  ∀ (H' : Hp) (ed : Addr) (w : Nat) (v1 v2 : V) (d1 d2 : PyData), EdIn K H' st st ed w v1 v2 d1 d2 → DT H' st (t + 20) → Ex1 st H H' → Nw d1 → Nw d2 → Q (.ref ed) H'
def spDo (K : PySem.W.Frag) (C cBu cTE a b c d e f : Addr) : Sp := fun vs H Q E => ∃ (st r ob ed : Addr) (w : Nat) (v1 v2 : V) (d1 d2 : PyData) (ins : List Ins) (eds : List PyData) (z : Bool), vs = [.ref ob, .ref ed] ∧ BnAt K C H ob ins eds z ∧ BnOk ins eds ∧ EdIn K H st r ed w v1 v2 d1 d2 ∧
  (z = true → ∀ H', Same H H' → E (.ref cBu) none H') ∧
  (z = false → eds.length = 60 → ∀ H', Same H H' → E (.ref cTE) none H') ∧
  (z = false → eds.length < 60 → ∀ cp, edFail (lastI ins) w d1 d2 = some cp → ∀ H', Same H H' → FailW (clE a b c d e f) cp v1 v2 H' E) ∧
  (z = false → eds.length < 60 → edFail (lastI ins) w d1 d2 = none → ∀ H', BnAt K C H' ob (ins ++ [edRes (lastI ins) w d1 d2]) (eds ++ [dEd w d1 d2]) z → BnOk (ins ++ [edRes (lastI ins) w d1 d2]) (eds ++ [dEd w d1 d2]) → Ex1 ob H H' → Q (.int ((eds.length + 1 : Nat))) H')
/-- how an edit ends: it is refused, and nothing changes, or it is made -/
def spTr (K : PySem.W.Frag) (C : Addr) : Sp := fun vs H Q _ => ∃ (st r ob ed : Addr) (w : Nat) (v1 v2 : V) (d1 d2 : PyData) (ins : List Ins) (eds : List PyData), vs = [.ref ob, .ref ed] ∧ BnAt K C H ob ins eds false ∧ BnOk ins eds ∧ EdIn K H st r ed w v1 v2 d1 d2 ∧
  ((eds.length = 60 ∨ edFail (lastI ins) w d1 d2 ≠ none) → ∀ H', Same H H' → Q .non H') ∧
  (eds.length < 60 → edFail (lastI ins) w d1 d2 = none → ∀ H', BnAt K C H' ob (ins ++ [edRes (lastI ins) w d1 d2]) (eds ++ [dEd w d1 d2]) false → BnOk (ins ++ [edRes (lastI ins) w d1 d2]) (eds ++ [dEd w d1 d2]) → Ex1 ob H H' → Q (.int ((eds.length + 1 : Nat))) H')
structure ExB (K : PySem.W.Frag) (cVE cTE a b c d e f : Addr) : Prop where
  te : PySem.W.exmAny K (.ref cTE) [.ref cVE, .ref a, .ref b] = some true
  xs : ∀ k, PySem.W.exmAny K (.ref (clE a b c d e f k)) [.ref cVE, .ref a, .ref b] = some true
section
variable {P : Program} {w : World} {K : PySem.W.Frag} {mg : Str → Option Value} {base : Heap}
set_option maxHeartbeats 16000000 in
theorem ok_Od {f fTa : Addr} {fd fdTa : FuncData} (F : Fun K "_law_odd" "_law_odd" sOd f fd)
    (FTa : Fun K "_law_take" "_law_take" sTa fTa fdTa) (bTa : Binds K fdTa ["_law_stream_here", "_law_many"] []) (gTa : mg "_law_take" = some (.ref fTa)) (GTa : FnOk P w K mg base CX0 1 fTa fdTa ["_law_stream_here", "_law_many"] spTa)
     :
    FnOk P w K mg base CX0 2 f fd ["_law_stream_here"] (spOd K) := by
  refine F.ok scOd (fun vs H Q E h => ?_) (fun cdv A outer s H vs Q E hr h => ?_)
  · obtain ⟨st, t, rfl, _⟩ := h; rfl
  · obtain ⟨st, t, rfl, hd, ht, q⟩ := h
    refine ⟨_, pss_cons (ps_set (i := 1) scOd.nd rfl (.inl rfl) (pe_lst (pa_cons (pe_non) (pa_cons (pe_bl) (pa_cons (pe_bl) (pa_cons (pe_un un_neg (pe_int)) (pa_cons (pe_op op_pow (pe_int) (pe_int)) (pa_cons (pe_str) (pa_cons (pe_str) (pa_cons (pe_tup (pa_nil)) (pa_cons (pe_lstS (pa_nil)) (pa_cons (pe_dnewK) (pa_cons (pe_tup (pa_cons (pe_int) pa_nil)) (pa_cons (pe_lstS (pa_cons (pe_int) pa_nil)) (pa_cons (pe_tup (pa_cons (pe_bl) pa_nil)) (pa_cons (pe_op op_add (pe_op op_pow (pe_int) (pe_int)) (pe_int)) (pa_cons (pe_int) (pa_cons (pe_int) pa_nil))))))))))))))))))
      (pss_one (ps_ret (pe_ix ix_list (pv 1) (pe_call GTa (hr.mono (by omega)) (by rfl) gTa FTa.kp bTa .nil pass0 (pa_cons (pv 0) (pa_cons (pe_int) pa_nil))) (fun _ _ => rfl)))), ?_⟩
    refine ⟨1, rfl, _, _, rfl, rfl, ⟨by decide, by decide, by decide⟩, Nat.zero_le _, fun p1 n1 => ⟨Nat.zero_le _, fun p2 n2 m2 p3 n3 => ?_⟩⟩
    have h1 : Dq K st st (upd H p1 (.tup [])) (.ref p1) (.tuple []) := .tup (SqT.of upd_same) .nil
    have s1 : Same H (upd H p1 (.tup [])) := sameNew n1
    have o2 := (hd.same s1).off n2
    generalize upd H p1 (.tup []) = H1 at *
    have h2 : Dq K st st (upd H1 p2 (.lst [])) (.ref p2) (.list []) := .lst upd_same o2 o2 m2 .nil
    have s2 : Same H1 (upd H1 p2 (.lst [])) := sameNew n2
    generalize upd H1 p2 (.lst []) = H2 at *
    have h3 : Dq K st st (upd H2 p3 (.dK [])) (.ref p3) (.dict []) := .dct (kvs := []) upd_same
    have s3 : Same H2 (upd H2 p3 (.dK [])) := sameNew n3
    generalize upd H2 p3 (.dK []) = H3 at *
    refine ⟨by decide, fun p5 n5 => ⟨by decide, fun p6 n6 m6 => ⟨by decide, fun p7 n7 => ⟨_, _, rfl, rfl, ⟨by decide, by decide, by decide⟩, _, _, rfl, rfl, (show (16 : Nat) ≤ sizeLine by decide), fun L nL => ?_⟩⟩⟩⟩
    have h5 : Dq K st st (upd H3 p5 (.tup [.int 0])) (.ref p5) (.tuple [.int 0]) := .tup (SqT.of upd_same) (.cons (.int 0) .nil)
    have s5 : Same H3 (upd H3 p5 (.tup [.int 0])) := sameNew n5
    generalize upd H3 p5 (.tup [.int 0]) = H5 at *
    have s05 := ((s1.trans s2).trans s3).trans s5
    have o6 := (hd.same s05).off n6
    have h6 : Dq K st st (upd H5 p6 (.lst [.int 0])) (.ref p6) (.list [.int 0]) := .lst upd_same o6 o6 m6 (.cons (.int 0) .nil)
    have s6 : Same H5 (upd H5 p6 (.lst [.int 0])) := sameNew n6
    generalize upd H5 p6 (.lst [.int 0]) = H6 at *
    have h7 : Dq K st st (upd H6 p7 (.tup [.bl true])) (.ref p7) (.tuple [.bool true]) := .tup (SqT.of upd_same) (.cons (.bl true) .nil)
    have s7 : Same H6 (upd H6 p7 (.tup [.bl true])) := sameNew n7
    generalize upd H6 p7 (.tup [.bl true]) = H7 at *
    have s57 := s6.trans s7
    have s37 := s5.trans s57
    have s27 := s3.trans s37
    have s17 := s2.trans s27
    have s07 := s1.trans s17
    have hall : DqAll K st st H7 [.non, .bl true, .bl false, .int (-1), .int (10 ^ (29 : Int).toNat), .str "", .str "0", .ref p1, .ref p2, .ref p3, .ref p5, .ref p6, .ref p7, .int (10 ^ (12 : Int).toNat + 1), .int 0, .int 6] oddB :=
      .cons .non (.cons (.bl _) (.cons (.bl _) (.cons (.int _) (.cons (.int _) (.cons (.str _) (.cons (.str _) (.cons (h1.lasts (.of s17)) (.cons (h2.lasts (.of s27)) (.cons (h3.lasts (.of s37))
        (.cons (h5.lasts (.of s57)) (.cons (h6.lasts (.of s7)) (.cons h7 (.cons (.int _) (.cons (.int _) (.cons (.int _) .nil)))))))))))))))
    generalize ev : ([.non, .bl true, .bl false, .int (-1), .int (10 ^ (29 : Int).toNat), .str "", .str "0", .ref p1, .ref p2, .ref p3, .ref p5, .ref p6, .ref p7, .int (10 ^ (12 : Int).toNat + 1), .int 0, .int 6] : List V) = vals at *
    have hvl : vals.length = 16 := by rw [← ev]; rfl
    have ev2 : ([.non, .bl true, .bl false, .int (-1), .int (10 ^ (29 : Int).toNat), .str "", .str "0", .ref p1, .ref p2, .ref p3, .ref p5, .ref p6, .ref p7, .int (10 ^ (12 : Int).toNat + 1), .int 0, .int 6] : List V) = vals := ev
    show _
    have sL := sameNew (o := .lst vals) nL
    have dL := hd.same (s07.trans sL)
    have oL := (hd.same s07).off nL
    subst ev
    refine ⟨.ref L, rfl, .ref st, rfl, st, _, 16, rfl, dL, by omega, by decide, by decide, fun H' d h0 h18 D' X' => ?_⟩
    obtain ⟨n, rfl⟩ : ∃ n : Nat, d = n := ⟨d.toNat, by omega⟩
    have hL := X' _ _ upd_same oL
    have hallL := (hall.lasts (.of sL)).lasts (Lasts.of1 dL X')
    generalize ev : ([.non, .bl true, .bl false, .int (-1), .int (10 ^ (29 : Int).toNat), .str "", .str "0", .ref p1, .ref p2, .ref p3, .ref p5, .ref p6, .ref p7, .int (10 ^ (12 : Int).toNat + 1), .int 0, .int 6] : List V) = vals at *
    have hn : n < vals.length := by omega
    obtain ⟨dd, hdd, hdq⟩ := DqAll.at hallL (List.getElem?_eq_getElem hn)
    refine ⟨L, _, _, _, rfl, rfl, SqL.of ?_, atI_nat (List.getElem?_eq_getElem hn), q _ _ _ D' ((Ex1.of (s07.trans sL)).trans X') hdq (odd_nw _ (List.mem_of_getElem? hdd))⟩
    exact hL
set_option maxHeartbeats 16000000 in
theorem ok_Sp {f fTa fOd fLP : Addr} {fd fdTa fdOd fdLP : FuncData} (F : Fun K "_law_spoilt" "_law_spoilt" sSp f fd)
    (FTa : Fun K "_law_take" "_law_take" sTa fTa fdTa) (bTa : Binds K fdTa ["_law_stream_here", "_law_many"] []) (gTa : mg "_law_take" = some (.ref fTa)) (GTa : FnOk P w K mg base CX0 1 fTa fdTa ["_law_stream_here", "_law_many"] spTa)
    (FOd : Fun K "_law_odd" "_law_odd" sOd fOd fdOd) (bOd : Binds K fdOd ["_law_stream_here"] []) (gOd : mg "_law_odd" = some (.ref fOd)) (GOd : FnOk P w K mg base CX0 2 fOd fdOd ["_law_stream_here"] (spOd K))
    (FLP : Fun K "_law_put" "_law_put" sLP fLP fdLP) (bLP : Binds K fdLP ["_law_items", "_law_spot", "_law_item"] []) (gLP : mg "_law_put" = some (.ref fLP)) (GLP : FnOk P w K mg base CX0 1 fLP fdLP ["_law_items", "_law_spot", "_law_item"] (spWI K))
    (m_range : mg "range" = none) (m_len : mg "len" = none) :
    FnOk P w K mg base CX0 3 f fd ["_law_stream_here", "_law_edit"] (spSp K) := by
  refine F.ok scSp (fun vs H Q E h => ?_) (fun cdv A outer s H vs Q E hr h => ?_)
  · obtain ⟨st, ed, t, w, v1, v2, d1, d2, rfl, _⟩ := h; rfl
  · obtain ⟨st, ed, t, w, v1, v2, d1, d2, rfl, hd, ht, hE, hn1, hn2, q⟩ := h
    refine ⟨_, pss_cons (ps_for PassesOwn.never rfl (pi_range1 (by rfl) m_range (pa_cons (pe_op op_add (pe_int) (pe_call GTa (hr.mono (by omega)) (by rfl) gTa FTa.kp bTa .nil pass0 (pa_cons (pv 0) (pa_cons (pe_int) pa_nil)))) pa_nil)) (pg_name (i := 2) scSp.nd rfl (.inl rfl))
        (pss_cons (ps_set (i := 3) scSp.nd rfl (.inl rfl) (pe_op op_add (pe_int) (pe_call GTa (hr.mono (by omega)) (by rfl) gTa FTa.kp bTa .nil pass0 (pa_cons (pv 0) (pa_cons (pe_op op_sub (pe_callB call_lenQ (by rfl) m_len PySem.boot_len (pa_cons (pv 1) pa_nil)) (pe_int)) pa_nil)))))
        (pss_cons (ps_set (i := 4) scSp.nd rfl (.inl rfl) (pe_ix ix_list (pe_lst (pa_cons (pe_call GOd (hr.mono (by omega)) (by rfl) gOd FOd.kp bOd .nil pass0 (pa_cons (pv 0) pa_nil)) (pa_cons (pe_tup (pa_cons (pe_int) (pa_cons (pe_int) pa_nil))) (pa_cons (pe_lstS (pa_cons (pe_int) pa_nil)) (pa_cons (pe_op op_sub (pe_int) (pe_call GTa (hr.mono (by omega)) (by rfl) gTa FTa.kp bTa .nil pass0 (pa_cons (pv 0) (pa_cons (pe_int) pa_nil)))) pa_nil))))) (pe_call GTa (hr.mono (by omega)) (by rfl) gTa FTa.kp bTa .nil pass0 (pa_cons (pv 0) (pa_cons (pe_int) pa_nil))) (fun _ _ => rfl)))
        (pss_one (ps_set (i := 1) scSp.nd rfl (.inl rfl) (pe_call GLP (hr.mono (by omega)) (by rfl) gLP FLP.kp bLP .nil pass0 (pa_cons (pv 1) (pa_cons (pv 3) (pa_cons (pv 4) pa_nil)))))))))
      (pss_one (ps_ret (pv 1))), ?_⟩
    have hw := hE.w7
    refine ⟨.ref st, rfl, st, _, 2, rfl, hd, by omega, by decide, by decide, fun H1 a a0 a1 D1 X1 => ⟨_, _, rfl, rfl, 1 + a, rfl, by omega, by omega, ?_⟩⟩
    refine for_it (walk_range (lo := 0) (n := (1 + a).toNat))
      (fun k σ Hx => ∃ (ed2 : Addr) (u1 u2 : V) (e1 e2 : PyData) (y2 y3 y4 : Option V), σ = [some (.ref st), some (.ref ed2), y2, y3, y4] ∧ DT Hx st (t + 1 + 4 * k) ∧ Ex1 st H Hx ∧ EdIn K Hx st st ed2 w u1 u2 e1 e2 ∧ Nw e1 ∧ Nw e2)
      ⟨ed, v1, v2, d1, d2, none, none, none, rfl, D1, X1, hE.lasts (Lasts.of1 hd X1), hn1, hn2⟩ (fun _ _ _ _ _ => trivial) ?_ ?_
    · rintro k v σ Hx Hx' hk ⟨ed2, u1, u2, e1, e2, y2, y3, y4, rfl, Dx, Xx, Ex, en1, en2⟩ ⟨rfl, rfl⟩
      have hk : k < (1 + a).toNat := hk
      dsimp only
      have hsq := Ex.sq
      obtain ⟨ln, hln, hl2⟩ : ∃ ln : Nat, (V.str (edW w) :: edArgs w u1 u2).length = ln ∧ ((w < 4 ∧ ln = 3) ∨ (¬ w < 4 ∧ ln = 2)) := by
        by_cases h : w < 4
        · exact ⟨3, by unfold edArgs; rw [if_pos h]; rfl, .inl ⟨h, rfl⟩⟩
        · exact ⟨2, by unfold edArgs; rw [if_neg h]; rfl, .inr ⟨h, rfl⟩⟩
      refine ⟨.ref st, rfl, .ref ed2, rfl, ed2, _, rfl, .inr hsq, _, _, rfl, rfl, st, _, _, rfl, Dx, by omega, by rw [hln]; omega, by rw [hln]; omega, fun H2 sp b0 b1 D2 X2 => ⟨_, _, rfl, rfl, ?_⟩⟩
      rw [hln] at b1
      obtain ⟨j, rfl⟩ : ∃ j : Nat, sp = j := ⟨sp.toNat, by omega⟩
      have E2 := Ex.lasts (Lasts.of1 Dx X2)
      refine ⟨.ref st, rfl, st, _, rfl, D2, by omega, fun H3 ov od D3 X3 hov hnw => ?_⟩
      have E3 := E2.lasts (Lasts.of1 D2 X3)
      refine ⟨(show (2 : Nat) ≤ sizeLine by decide), fun p1 n1 => ⟨(show (1 : Nat) ≤ sizeLine by decide), fun p2 n2 m2 => ?_⟩⟩
      have s1 := sameNew (o := .tup [V.int 0, V.int 0]) n1
      have h1 : Dq K st st (upd H3 p1 (.tup [V.int 0, V.int 0])) (.ref p1) (.tuple [.int 0, .int 0]) := .tup (SqT.of upd_same) (.cons (.int 0) (.cons (.int 0) .nil))
      have D4 := D3.same s1
      have hov4 := hov.lasts (Lasts.of s1)
      have E4 := E3.lasts (Lasts.of s1)
      have X4 := (X2.trans X3).trans (Ex1.of s1)
      generalize upd H3 p1 (.tup [V.int 0, V.int 0]) = H4 at *
      have s2 := sameNew (o := .lst [V.int 1]) n2
      have o2 := D4.off n2
      have h2 : Dq K st st (upd H4 p2 (.lst [V.int 1])) (.ref p2) (.list [.int 1]) := .lst upd_same o2 o2 m2 (.cons (.int 1) .nil)
      have D5 := D4.same s2
      have h15 := h1.lasts (Lasts.of s2)
      have hov5 := hov4.lasts (Lasts.of s2)
      have E5 := E4.lasts (Lasts.of s2)
      have X5 := X4.trans (Ex1.of s2)
      generalize upd H4 p2 (.lst [V.int 1]) = H5 at *
      refine ⟨.ref st, rfl, st, _, 9, rfl, D5, by omega, by decide, by decide, fun H6 c c0 c1 D6 X6 => ⟨_, _, rfl, rfl, (show (4 : Nat) ≤ sizeLine by decide), fun Z nZ => ?_⟩⟩
      have l6 := Lasts.of1 D5 X6
      have sZ := sameNew (o := .lst [ov, V.ref p1, V.ref p2, V.int (7 - c)]) nZ
      have hall : DqAll K st st H6 [ov, .ref p1, .ref p2, .int (7 - c)] [od, .tuple [.int 0, .int 0], .list [.int 1], .int (7 - c)] := .cons (hov5.lasts l6) (.cons (h15.lasts l6) (.cons (h2.lasts l6) (.cons (.int _) .nil)))
      have D7 := D6.same sZ
      have oZ := D6.off nZ
      refine ⟨.ref st, rfl, st, _, 4, rfl, D7, by omega, by decide, by decide, fun H8 m m0 m1 D8 X8 => ?_⟩
      have l8 := Lasts.of1 D7 X8
      have hall8 := (hall.lasts (Lasts.of sZ)).lasts l8
      have E8 := ((E5.lasts l6).lasts (Lasts.of sZ)).lasts l8
      have eZ := X8 _ _ upd_same oZ
      have XX := Xx.trans (X5.trans (X6.trans ((Ex1.of sZ).trans X8)))
      obtain ⟨n, rfl⟩ : ∃ n : Nat, m = n := ⟨m.toNat, by omega⟩
      have hn : n < [ov, V.ref p1, V.ref p2, V.int (7 - c)].length := by show n < 4; omega
      obtain ⟨dd, hdd, hdq⟩ := DqAll.at hall8 (List.getElem?_eq_getElem hn)
      have hnd : Nw dd := by
        have hm := List.mem_of_getElem? hdd
        simp only [List.mem_cons, List.not_mem_nil, or_false] at hm
        rcases hm with rfl | rfl | rfl | rfl
        · exact hnw
        · exact nw_dI (l := [0, 0]) (by decide) (by simp)
        · exact ⟨fun _ z => (by cases z), by simp [fit, fitAll], by simp [PyData.depth, PyData.depthAll], by simp [wt, wtAll]⟩
        · exact nw_int (by omega)
      refine ⟨Z, _, _, _, rfl, rfl, SqL.of eZ, atI_nat (List.getElem?_eq_getElem hn), ?_⟩
      generalize [ov, V.ref p1, V.ref p2, V.int (7 - c)][n] = nv at hdq ⊢
      refine ⟨.ref ed2, rfl, .int ((1 + j : Nat) : Int), rfl, nv, rfl, ed2, _, 1 + j, nv, rfl, E8.sq, by rw [hln]; omega, by rw [hln]; omega, fun H9 ed3 s9 h9 => ?_⟩
      have l9 := Lasts.of (st := st) (r := st) s9
      have D9 := (D8.same s9).mono (t' := t + 1 + 4 * (k + 1)) (by omega)
      have X9 := XX.trans (Ex1.of s9)
      have E9 := E8.lasts l9
      have hdq9 := hdq.lasts l9
      rcases hl2 with ⟨h4, hl⟩ | ⟨h4, hl⟩
      · have hs : edArgs w u1 u2 = [u1, u2] := by unfold edArgs; rw [if_pos h4]
        rw [hs] at h9
        have hj2 : j = 0 ∨ j = 1 := by omega
        rcases hj2 with rfl | rfl
        · exact ⟨ed3, nv, u2, dd, e2, _, _, _, rfl, D9, X9, ⟨hw, by unfold edArgs; rw [if_pos h4]; exact h9, hdq9, E9.h2⟩, hnd, en2⟩
        · exact ⟨ed3, u1, nv, e1, dd, _, _, _, rfl, D9, X9, ⟨hw, by unfold edArgs; rw [if_pos h4]; exact h9, E9.h1, fun _ => hdq9⟩, en1, hnd⟩
      · have hs : edArgs w u1 u2 = [u1] := by unfold edArgs; rw [if_neg h4]
        rw [hs] at h9
        have hj2 : j = 0 := by omega
        subst hj2
        exact ⟨ed3, nv, u2, dd, e2, _, _, _, rfl, D9, X9, ⟨hw, by unfold edArgs; rw [if_neg h4]; exact h9, hdq9, fun z => absurd z h4⟩, hnd, en2⟩
    rintro σ H2 ⟨ed2, u1, u2, e1, e2, y2, y3, y4, rfl, D2, X2, E2, en1, en2⟩
    exact ⟨.ref ed2, rfl, q _ ed2 u1 u2 e1 e2 E2 (D2.mono (by omega)) X2 en1 en2⟩
set_option maxHeartbeats 16000000 in
theorem ok_SE {f fTa fLi fSz : Addr} {fd fdTa fdLi fdSz : FuncData} (F : Fun K "_law_some_edit" "_law_some_edit" sSE f fd)
    (FTa : Fun K "_law_take" "_law_take" sTa fTa fdTa) (bTa : Binds K fdTa ["_law_stream_here", "_law_many"] []) (gTa : mg "_law_take" = some (.ref fTa)) (GTa : FnOk P w K mg base CX0 1 fTa fdTa ["_law_stream_here", "_law_many"] spTa)
    (FLi : Fun K "_law_list" "_law_list" sLi fLi fdLi) (bLi : Binds K fdLi ["_law_stream_here", "_law_many"] []) (gLi : mg "_law_list" = some (.ref fLi)) (GLi : FnOk P w K mg base CX0 2 fLi fdLi ["_law_stream_here", "_law_many"] (spLi K))
    (FSz : Fun K "_law_size" "_law_size" sSz fSz fdSz) (bSz : Binds K fdSz ["_law_stream_here"] []) (gSz : mg "_law_size" = some (.ref fSz)) (GSz : FnOk P w K mg base CX0 2 fSz fdSz ["_law_stream_here"] (spSz K))
    (m_len : mg "len" = none) (m_int : mg "int" = none) :
    FnOk P w K mg base CX0 3 f fd ["_law_stream_here", "_law_instance_here", "_law_words"] (spSE K) := by
  refine F.ok scSE (fun vs H Q E h => ?_) (fun cdv A outer s H vs Q E hr h => ?_)
  · obtain ⟨st, i, wl, t, x, ws, rfl, _⟩ := h; rfl
  · obtain ⟨st, i, wl, t, x, ws, rfl, hd, ht, hI, io, hW, nw, hw7, wp, wl7, q⟩ := h
    refine ⟨_, pss_cons (ps_set (i := 3) scSE.nd rfl (.inl rfl) (pe_ix ix_list (pv 2) (pe_call GTa (hr.mono (by omega)) (by rfl) gTa FTa.kp bTa .nil pass0 (pa_cons (pv 0) (pa_cons (pe_callB call_lenQ (by rfl) m_len PySem.boot_len (pa_cons (pv 2) pa_nil)) pa_nil))) (fun _ _ => rfl)))
      (pss_cons (ps_set (i := 4) scSE.nd rfl (.inl rfl) (pe_call GTa (hr.mono (by omega)) (by rfl) gTa FTa.kp bTa .nil pass0 (pa_cons (pv 0) (pa_cons (pe_callB call_lenQ (by rfl) m_len PySem.boot_len (pa_cons (pe_ix ix_tup (pv 1) (pe_int) (fun _ _ => rfl)) pa_nil)) pa_nil))))
      (pss_cons (ps_set (i := 5) scSE.nd rfl (.inl rfl) (pe_call GTa (hr.mono (by omega)) (by rfl) gTa FTa.kp bTa .nil pass0 (pa_cons (pv 0) (pa_cons (pe_callB call_lenQ (by rfl) m_len PySem.boot_len (pa_cons (pe_ix ix_tup (pv 1) (pe_int) (fun _ _ => rfl)) pa_nil)) pa_nil))))
      (pss_cons (ps_par (i := 6) (j := 7) rfl scSE.nd rfl rfl (by decide) rfl rfl (pa_cons (pe_call GLi (hr.mono (by omega)) (by rfl) gLi FLi.kp bLi .nil pass0 (pa_cons (pv 0) (pa_cons (pe_callB call_lenQ (by rfl) m_len PySem.boot_len (pa_cons (pe_ix ix_tup (pv 1) (pe_int) (fun _ _ => rfl)) pa_nil)) pa_nil))) (pa_cons (pe_call GSz (hr.mono (by omega)) (by rfl) gSz FSz.kp bSz .nil pass0 (pa_cons (pv 0) pa_nil)) pa_nil)) rfl)
      (pss_cons (ps_if (pt_cmpR op_eq (pv 3) (pe_str) (nomark _))
        (pss_one (ps_ret (pe_tup (pa_cons (pv 3) (pa_cons (pv 4) (pa_cons (pv 7) pa_nil)))))) pss_nil)
      (pss_cons (ps_if (pt_cmpR op_eq (pv 3) (pe_str) (nomark _))
        (pss_one (ps_ret (pe_tup (pa_cons (pv 3) (pa_cons (pv 5) (pa_cons (pv 7) pa_nil)))))) pss_nil)
      (pss_cons (ps_if (pt_cmpR op_eq (pv 3) (pe_str) (nomark _))
        (pss_one (ps_ret (pe_tup (pa_cons (pv 3) (pa_cons (pv 5) (pa_cons (pv 6) pa_nil)))))) pss_nil)
      (pss_cons (ps_if (pt_cmpR op_eq (pv 3) (pe_str) (nomark _))
        (pss_one (ps_ret (pe_tup (pa_cons (pv 3) (pa_cons (pv 6) (pa_cons (pv 7) pa_nil)))))) pss_nil)
      (pss_cons (ps_if (pt_cmpR op_eq (pv 3) (pe_str) (nomark _))
        (pss_one (ps_ret (pe_tup (pa_cons (pv 3) (pa_cons (pv 5) pa_nil))))) pss_nil)
      (pss_one (ps_ret (pe_tup (pa_cons (pv 3) (pa_cons (pe_ix ix_list (pe_lst (pa_cons (pv 4) (pa_cons (pv 7) pa_nil))) (pe_callTy call_int1 (by rfl) m_int (by decide +kernel) (pa_cons (pe_cmpR op_eq (pv 3) (pe_str) (nomark _)) pa_nil)) (fun _ _ => rfl)) pa_nil))))))))))))), ?_⟩
    obtain ⟨cs, gs⟩ := x
    have ok := io.ok
    have ok : InsOk cs gs := ok
    have hI0 : Dp K H (.ref i) (dInst cs gs) := hI
    have o6 := ok.c6
    have o1 := ok.c1
    have o10 := ok.g10
    have og := ok.g1
    have lw : (wdV ws).length = ws.length := List.length_map ..
    refine ⟨.ref wl, rfl, .ref st, rfl, .ref wl, rfl, wl, _, rfl, .inl (SqL.of hW), st, _, _, rfl, hd, by omega, by rw [lw]; omega, by rw [lw]; omega, fun H1 a a0 a1 D1 X1 => ?_⟩
    rw [lw] at a1
    have hW1 := X1 _ _ hW nw
    have hk : a.toNat < ws.length := by omega
    obtain ⟨wd, hwd⟩ : ∃ wd, ws[a.toNat]? = some wd := ⟨_, List.getElem?_eq_getElem hk⟩
    have w7 := hw7 _ (List.mem_of_getElem? hwd)
    have hat : atI (wdV ws) a = some (.str (edW wd)) := by
      have := atI_nat (xs := wdV ws) (j := a.toNat) (v := .str (edW wd)) (by unfold wdV; rw [List.getElem?_map, hwd]; rfl)
      rwa [show ((a.toNat : Nat) : Int) = a by omega] at this
    refine ⟨wl, _, _, .str (edW wd), rfl, rfl, SqL.of hW1, hat, ?_⟩
    have hI1 := (X1.tup hd).dp _ _ (to_dInst _ _) hI0
    obtain ⟨_, ca, ga, xs, e, hi, hc, hgt, hgs⟩ := inst_open hI1
    cases e
    have lx := DpAll.len hgs
    rw [List.length_map] at lx
    have lc : (cs.map V.int).length = cs.length := List.length_map ..
    -- the post
    refine ⟨.ref st, rfl, .ref i, rfl, i, _, 0, .ref ca, rfl, rfl, hi, atI_nat (j := 0) rfl, ca, _, rfl, .inr hc, st, _, _, rfl, D1, by omega, by rw [lc]; omega, by rw [lc]; omega, fun H2 po b0 b1 D2 X2 => ?_⟩
    rw [lc] at b1
    have tk2 := X2.tup D1
    refine ⟨.ref st, rfl, .ref i, rfl, i, _, 1, .ref ga, rfl, rfl, tk2.sq hi, atI_nat (j := 1) rfl, ga, _, rfl, .inr (tk2.sq hgt), st, _, _, rfl, D2, by omega, by rw [lx]; omega, by rw [lx]; omega, fun H3 gr c0 c1 D3 X3 => ?_⟩
    have tk3 := tk2.trans (X3.tup D2)
    refine ⟨.ref st, rfl, .ref i, rfl, i, _, 0, .ref ca, rfl, rfl, tk3.sq hi, atI_nat (j := 0) rfl, ca, _, rfl, .inr (tk3.sq hc), st, _, cs.length, by rw [lc]; rfl, D3, by omega, by omega, fun H4 ps pl hps bps nps lps D4 X4 => ?_⟩
    refine ⟨.ref st, rfl, st, _, rfl, D4, by omega, fun H5 nm e0 e1 D5 X5 => ⟨_, _, rfl, ?_⟩⟩
    have X15 : Ex1 st H H5 := X1.trans (X2.trans (X3.trans (X4.trans X5)))
    have hp5 : Dq K st st H5 (.ref ps) (dI pl) := Dq.of_dp (to_dI _) ((X5.tup D4).dp _ _ (to_dI _) hps)
    clear hI1 hi hc hgt hgs tk2 tk3 hps hW1 hat
    have hnp : Nw (dI pl) := nw_dI (by omega) (fun x hx => by have := bps x hx; omega)
    have fin : ∀ {w : Nat} {v1 v2 : V} {d1 d2 : PyData} {T : Addr}, w < 7 → H5 T = none → Dq K st st H5 v1 d1 → (w < 4 → Dq K st st H5 v2 d2) → Nw d1 → Nw d2 → Q (.ref T) (upd H5 T (.tup (.str (edW w) :: edArgs w v1 v2))) := fun {w v1 v2 d1 d2 T} hw nT h1 h2 n1 n2 =>
      q _ T w v1 v2 d1 d2 ⟨hw, SqT.of upd_same, h1.lasts (.of (sameNew nT)), fun z => (h2 z).lasts (.of (sameNew nT))⟩ ((D5.new nT).mono (by omega)) (X15.trans (Ex1.of (sameNew nT))) n1 n2
    have h7 : wd = 0 ∨ wd = 1 ∨ wd = 2 ∨ wd = 3 ∨ wd = 4 ∨ wd = 5 ∨ wd = 6 := by omega
    rcases h7 with rfl | rfl | rfl | rfl | rfl | rfl | rfl
    · refine ⟨_, rfl, rfl, _, rfl, iteT ?_⟩
      exact ⟨_, rfl, .int po, rfl, .int nm, rfl, (show (3 : Nat) ≤ sizeLine by decide), fun T nT => fin (w := 0) (v1 := .int po) (v2 := .int nm) (by decide) nT (.int _) (fun _ => (.int _)) (nw_int (by omega)) (nw_int (by omega))⟩
    · refine ⟨_, rfl, rfl, _, rfl, ite_f (str_f (by decide +kernel)) ?_⟩
      refine ⟨_, rfl, rfl, _, rfl, iteT ?_⟩
      exact ⟨_, rfl, .int gr, rfl, .int nm, rfl, (show (3 : Nat) ≤ sizeLine by decide), fun T nT => fin (w := 1) (v1 := .int gr) (v2 := .int nm) (by decide) nT (.int _) (fun _ => (.int _)) (nw_int (by omega)) (nw_int (by omega))⟩
    · refine ⟨_, rfl, rfl, _, rfl, ite_f (str_f (by decide +kernel)) ?_⟩
      refine ⟨_, rfl, rfl, _, rfl, ite_f (str_f (by decide +kernel)) ?_⟩
      refine ⟨_, rfl, rfl, _, rfl, iteT ?_⟩
      exact ⟨_, rfl, .int gr, rfl, .ref ps, rfl, (show (3 : Nat) ≤ sizeLine by decide), fun T nT => fin (w := 2) (v1 := .int gr) (v2 := .ref ps) (by decide) nT (.int _) (fun _ => hp5) (nw_int (by omega)) hnp⟩
    · refine ⟨_, rfl, rfl, _, rfl, ite_f (str_f (by decide +kernel)) ?_⟩
      refine ⟨_, rfl, rfl, _, rfl, ite_f (str_f (by decide +kernel)) ?_⟩
      refine ⟨_, rfl, rfl, _, rfl, ite_f (str_f (by decide +kernel)) ?_⟩
      refine ⟨_, rfl, rfl, _, rfl, iteT ?_⟩
      exact ⟨_, rfl, .ref ps, rfl, .int nm, rfl, (show (3 : Nat) ≤ sizeLine by decide), fun T nT => fin (w := 3) (v1 := .ref ps) (v2 := .int nm) (by decide) nT hp5 (fun _ => (.int _)) hnp (nw_int (by omega))⟩
    · refine ⟨_, rfl, rfl, _, rfl, ite_f (str_f (by decide +kernel)) ?_⟩
      refine ⟨_, rfl, rfl, _, rfl, ite_f (str_f (by decide +kernel)) ?_⟩
      refine ⟨_, rfl, rfl, _, rfl, ite_f (str_f (by decide +kernel)) ?_⟩
      refine ⟨_, rfl, rfl, _, rfl, ite_f (str_f (by decide +kernel)) ?_⟩
      refine ⟨_, rfl, rfl, _, rfl, iteT ?_⟩
      exact ⟨_, rfl, .int gr, rfl, (show (2 : Nat) ≤ sizeLine by decide), fun T nT => fin (w := 4) (v1 := .int gr) (v2 := .non) (d2 := .none) (by decide) nT (.int _) (fun z => absurd z (by decide)) (nw_int (by omega)) nw_none⟩
    · refine ⟨_, rfl, rfl, _, rfl, ite_f (str_f (by decide +kernel)) ?_⟩
      refine ⟨_, rfl, rfl, _, rfl, ite_f (str_f (by decide +kernel)) ?_⟩
      refine ⟨_, rfl, rfl, _, rfl, ite_f (str_f (by decide +kernel)) ?_⟩
      refine ⟨_, rfl, rfl, _, rfl, ite_f (str_f (by decide +kernel)) ?_⟩
      refine ⟨_, rfl, rfl, _, rfl, ite_f (str_f (by decide +kernel)) ?_⟩
      refine ⟨_, rfl, .int po, rfl, .int nm, rfl, (show (2 : Nat) ≤ sizeLine by decide), fun L nL => ⟨_, rfl, rfl, .inr ⟨_, rfl, ?_⟩⟩⟩
      have sL := sameNew (o := .lst [V.int po, V.int nm]) nL
      have hb : decide (V.str (edW 5) = V.str "add_post") = true := str_t _
      refine ⟨L, _, 1, .int nm, rfl, by first | rfl | (rw [hb]; rfl) | (simp only [hb]; rfl), SqL.of upd_same, rfl, (show (2 : Nat) ≤ sizeLine by decide), fun T nT => ?_⟩
      exact q _ T 5 (.int nm) .non _ .none ⟨by decide, SqT.of upd_same, (.int _), fun z => absurd z (by decide)⟩ (((D5.new nL).new nT).mono (by omega)) ((X15.trans (Ex1.of sL)).trans (Ex1.of (sameNew nT))) (nw_int (by omega)) nw_none
    · refine ⟨_, rfl, rfl, _, rfl, ite_f (str_f (by decide +kernel)) ?_⟩
      refine ⟨_, rfl, rfl, _, rfl, ite_f (str_f (by decide +kernel)) ?_⟩
      refine ⟨_, rfl, rfl, _, rfl, ite_f (str_f (by decide +kernel)) ?_⟩
      refine ⟨_, rfl, rfl, _, rfl, ite_f (str_f (by decide +kernel)) ?_⟩
      refine ⟨_, rfl, rfl, _, rfl, ite_f (str_f (by decide +kernel)) ?_⟩
      refine ⟨_, rfl, .int po, rfl, .int nm, rfl, (show (2 : Nat) ≤ sizeLine by decide), fun L nL => ⟨_, rfl, rfl, .inr ⟨_, rfl, ?_⟩⟩⟩
      have sL := sameNew (o := .lst [V.int po, V.int nm]) nL
      have hb : decide (V.str (edW 6) = V.str "add_post") = false := str_f (by decide +kernel)
      refine ⟨L, _, 0, .int po, rfl, by first | rfl | (rw [hb]; rfl) | (simp only [hb]; rfl), SqL.of upd_same, rfl, (show (2 : Nat) ≤ sizeLine by decide), fun T nT => ?_⟩
      exact q _ T 6 (.int po) .non _ .none ⟨by decide, SqT.of upd_same, (.int _), fun z => absurd z (by decide)⟩ (((D5.new nL).new nT).mono (by omega)) ((X15.trans (Ex1.of sL)).trans (Ex1.of (sameNew nT))) (nw_int (by omega)) nw_none
set_option maxHeartbeats 16000000 in
theorem ok_Do {cNP cNG cBN cBL cTM cLO cBu cTE : Addr} {f fM0 fM1 fM2 fM3 fM4 fM5 fM6 : Addr} {fd fdM0 fdM1 fdM2 fdM3 fdM4 fdM5 fdM6 : FuncData} {cB : Addr} (T : BBx K mg cB) (F : Fun K "_law_do" "_law_do" sDo f fd)
    (FM0 : Fun K "set_capacity" "Bench.set_capacity" sM0 fM0 fdM0) (bM0 : Binds K fdM0 ["self", "post", "capacity"] []) (mM0 : Meth K cB "set_capacity" fM0) (GM0 : FnOk P w K mg base (CX P w) 8 fM0 fdM0 ["self", "post", "capacity"] (spMm K cB cBu cTE cNP cNG cBN cBL cTM cLO 0))
    (FM1 : Fun K "set_count" "Bench.set_count" sM1 fM1 fdM1) (bM1 : Binds K fdM1 ["self", "group", "count"] []) (mM1 : Meth K cB "set_count" fM1) (GM1 : FnOk P w K mg base (CX P w) 8 fM1 fdM1 ["self", "group", "count"] (spMm K cB cBu cTE cNP cNG cBN cBL cTM cLO 1))
    (FM2 : Fun K "set_list" "Bench.set_list" sM2 fM2 fdM2) (bM2 : Binds K fdM2 ["self", "group", "posts"] []) (mM2 : Meth K cB "set_list" fM2) (GM2 : FnOk P w K mg base (CX P w) 8 fM2 fdM2 ["self", "group", "posts"] (spMm K cB cBu cTE cNP cNG cBN cBL cTM cLO 2))
    (FM3 : Fun K "add_group" "Bench.add_group" sM3 fM3 fdM3) (bM3 : Binds K fdM3 ["self", "posts", "count"] []) (mM3 : Meth K cB "add_group" fM3) (GM3 : FnOk P w K mg base (CX P w) 8 fM3 fdM3 ["self", "posts", "count"] (spMm K cB cBu cTE cNP cNG cBN cBL cTM cLO 3))
    (FM4 : Fun K "remove_group" "Bench.remove_group" sM4 fM4 fdM4) (bM4 : Binds K fdM4 ["self", "group"] []) (mM4 : Meth K cB "remove_group" fM4) (GM4 : FnOk P w K mg base (CX P w) 8 fM4 fdM4 ["self", "group"] (spMm K cB cBu cTE cNP cNG cBN cBL cTM cLO 4))
    (FM5 : Fun K "add_post" "Bench.add_post" sM5 fM5 fdM5) (bM5 : Binds K fdM5 ["self", "capacity"] []) (mM5 : Meth K cB "add_post" fM5) (GM5 : FnOk P w K mg base (CX P w) 8 fM5 fdM5 ["self", "capacity"] (spMm K cB cBu cTE cNP cNG cBN cBL cTM cLO 5))
    (FM6 : Fun K "remove_post" "Bench.remove_post" sM6 fM6 fdM6) (bM6 : Binds K fdM6 ["self", "post"] []) (mM6 : Meth K cB "remove_post" fM6) (GM6 : FnOk P w K mg base (CX P w) 8 fM6 fdM6 ["self", "post"] (spMm K cB cBu cTE cNP cNG cBN cBL cTM cLO 6))
     :
    FnOk P w K mg base (L2.CX P w) 9 f fd ["_law_bench", "_law_edit"] (spDo K cB cBu cTE cNP cNG cBN cBL cTM cLO) := by
  refine F.okX scDo (fun vs H Q E h => ?_) (fun cdv A outer s H vs Q E hr h => ?_)
  · obtain ⟨st, r, ob, ed, w, v1, v2, d1, d2, ins, eds, z, rfl, _⟩ := h; rfl
  · obtain ⟨st, r, ob, ed, w, v1, v2, d1, d2, ins, eds, z, rfl, hB, hK, hE, q1, q2, q3, q⟩ := h
    refine ⟨_, pss_cons (ps_par (i := 2) (j := 3) rfl scDo.nd rfl rfl (by decide) rfl rfl (pa_cons (pe_ix ix_tup (pv 1) (pe_int) (fun _ _ => rfl)) (pa_cons (pe_slice sl_tupA (pv 1) (po_some (pe_int)) po_none) pa_nil)) rfl)
      (pss_cons (ps_if (pt_cmpR op_eq (pv 2) (pe_str) (nomark _))
        (pss_one (ps_ret (pe_methW (pv 0) T.cl mM0 GM0 (hr.mono (by omega)) bM0 (fun σ => passAt (takes_of rfl rfl rfl rfl) σ) (pa_cons (pe_ix ix_tup (pv 3) (pe_int) (fun _ _ => rfl)) (pa_cons (pe_ix ix_tup (pv 3) (pe_int) (fun _ _ => rfl)) pa_nil))))) pss_nil)
      (pss_cons (ps_if (pt_cmpR op_eq (pv 2) (pe_str) (nomark _))
        (pss_one (ps_ret (pe_methW (pv 0) T.cl mM1 GM1 (hr.mono (by omega)) bM1 (fun σ => passAt (takes_of rfl rfl rfl rfl) σ) (pa_cons (pe_ix ix_tup (pv 3) (pe_int) (fun _ _ => rfl)) (pa_cons (pe_ix ix_tup (pv 3) (pe_int) (fun _ _ => rfl)) pa_nil))))) pss_nil)
      (pss_cons (ps_if (pt_cmpR op_eq (pv 2) (pe_str) (nomark _))
        (pss_one (ps_ret (pe_methW (pv 0) T.cl mM2 GM2 (hr.mono (by omega)) bM2 (fun σ => passAt (takes_of rfl rfl rfl rfl) σ) (pa_cons (pe_ix ix_tup (pv 3) (pe_int) (fun _ _ => rfl)) (pa_cons (pe_ix ix_tup (pv 3) (pe_int) (fun _ _ => rfl)) pa_nil))))) pss_nil)
      (pss_cons (ps_if (pt_cmpR op_eq (pv 2) (pe_str) (nomark _))
        (pss_one (ps_ret (pe_methW (pv 0) T.cl mM3 GM3 (hr.mono (by omega)) bM3 (fun σ => passAt (takes_of rfl rfl rfl rfl) σ) (pa_cons (pe_ix ix_tup (pv 3) (pe_int) (fun _ _ => rfl)) (pa_cons (pe_ix ix_tup (pv 3) (pe_int) (fun _ _ => rfl)) pa_nil))))) pss_nil)
      (pss_cons (ps_if (pt_cmpR op_eq (pv 2) (pe_str) (nomark _))
        (pss_one (ps_ret (pe_methW (pv 0) T.cl mM4 GM4 (hr.mono (by omega)) bM4 (fun σ => passAt (takes_of rfl rfl rfl rfl) σ) (pa_cons (pe_ix ix_tup (pv 3) (pe_int) (fun _ _ => rfl)) pa_nil)))) pss_nil)
      (pss_cons (ps_if (pt_cmpR op_eq (pv 2) (pe_str) (nomark _))
        (pss_one (ps_ret (pe_methW (pv 0) T.cl mM5 GM5 (hr.mono (by omega)) bM5 (fun σ => passAt (takes_of rfl rfl rfl rfl) σ) (pa_cons (pe_ix ix_tup (pv 3) (pe_int) (fun _ _ => rfl)) pa_nil)))) pss_nil)
      (pss_one (ps_ret (pe_methW (pv 0) T.cl mM6 GM6 (hr.mono (by omega)) bM6 (fun σ => passAt (takes_of rfl rfl rfl rfl) σ) (pa_cons (pe_ix ix_tup (pv 3) (pe_int) (fun _ _ => rfl)) pa_nil)))))))))), ?_⟩
    have hw := hE.w7
    have h1 := hE.h1
    have h2 := hE.h2
    have hsq := hE.sq
    refine ⟨.ref ed, rfl, ed, _, 0, .str (edW w), rfl, rfl, hsq, atI_nat (j := 0) rfl, .ref ed, rfl, 1, rfl, ?_⟩
    dsimp only [tNoPart]
    refine sl_anyB (lo := some 1) (hi := none) hsq fun H1 th s1 hth => ⟨_, _, rfl, ?_⟩
    have e : cutV (.str (edW w) :: edArgs w v1 v2) (some 1) none = edArgs w v1 v2 := by
      have h7 : w = 0 ∨ w = 1 ∨ w = 2 ∨ w = 3 ∨ w = 4 ∨ w = 5 ∨ w = 6 := by omega
      rcases h7 with rfl | rfl | rfl | rfl | rfl | rfl | rfl <;> rfl
    rw [e] at hth
    have hB1 := hB.same s1 hK.to
    have h11 := h1.lasts (Lasts.of s1)
    have h21 := fun z => (h2 z).lasts (Lasts.of s1)
    obtain ⟨dx, S, M, sv, mv, hO, _⟩ := hB1.ob
    have no : ∀ m : Str, ¬ m = "states" → ¬ m = "made" → ¬ m = "stepping" → (fldsB S M z).lookup m = none := fun m a b c => fB_no S M z a b c
    have fin : (z = true → ∀ H', Same H1 H' → E (.ref cBu) none H') ∧ (z = false → eds.length = 60 → ∀ H', Same H1 H' → E (.ref cTE) none H') ∧
        (z = false → eds.length < 60 → ∀ cp, edFail (lastI ins) w d1 d2 = some cp → ∀ H', Same H1 H' → FailW (clE cNP cNG cBN cBL cTM cLO) cp v1 v2 H' E) ∧
        (z = false → eds.length < 60 → edFail (lastI ins) w d1 d2 = none → ∀ H', BnAt K cB H' ob (ins ++ [edRes (lastI ins) w d1 d2]) (eds ++ [dEd w d1 d2]) z → BnOk (ins ++ [edRes (lastI ins) w d1 d2]) (eds ++ [dEd w d1 d2]) → Ex1 ob H1 H' → Q (.int ((eds.length + 1 : Nat))) H') :=
      ⟨fun a H' s => q1 a H' (s1.trans s), fun a b H' s => q2 a b H' (s1.trans s), fun a b cp c H' s => q3 a b cp c H' (s1.trans s), fun a b c H' d e f => q a b c H' d e ((Ex1.of s1).trans f)⟩
    have h7 : w = 0 ∨ w = 1 ∨ w = 2 ∨ w = 3 ∨ w = 4 ∨ w = 5 ∨ w = 6 := by omega
    rcases h7 with rfl | rfl | rfl | rfl | rfl | rfl | rfl
    · refine ⟨_, rfl, rfl, _, rfl, iteT ?_⟩
      have hth : SqT K H1 th [v1, v2] := hth
      exact ⟨.ref ob, rfl, ob, dx, _, rfl, hO, no "set_capacity" (by decide +kernel) (by decide +kernel) (by decide +kernel), .ref th, rfl, th, _, 0, v1, rfl, rfl, hth, atI_nat (j := 0) rfl, .ref th, rfl, th, _, 1, v2, rfl, rfl, hth, atI_nat (j := 1) rfl, st, r, ob, v1, v2, d1, d2, ins, eds, z, rfl, hB1, hK, h11, h21, fin⟩
    · refine ⟨_, rfl, rfl, _, rfl, ite_f (str_f (by decide +kernel)) ?_⟩
      refine ⟨_, rfl, rfl, _, rfl, iteT ?_⟩
      have hth : SqT K H1 th [v1, v2] := hth
      exact ⟨.ref ob, rfl, ob, dx, _, rfl, hO, no "set_count" (by decide +kernel) (by decide +kernel) (by decide +kernel), .ref th, rfl, th, _, 0, v1, rfl, rfl, hth, atI_nat (j := 0) rfl, .ref th, rfl, th, _, 1, v2, rfl, rfl, hth, atI_nat (j := 1) rfl, st, r, ob, v1, v2, d1, d2, ins, eds, z, rfl, hB1, hK, h11, h21, fin⟩
    · refine ⟨_, rfl, rfl, _, rfl, ite_f (str_f (by decide +kernel)) ?_⟩
      refine ⟨_, rfl, rfl, _, rfl, ite_f (str_f (by decide +kernel)) ?_⟩
      refine ⟨_, rfl, rfl, _, rfl, iteT ?_⟩
      have hth : SqT K H1 th [v1, v2] := hth
      exact ⟨.ref ob, rfl, ob, dx, _, rfl, hO, no "set_list" (by decide +kernel) (by decide +kernel) (by decide +kernel), .ref th, rfl, th, _, 0, v1, rfl, rfl, hth, atI_nat (j := 0) rfl, .ref th, rfl, th, _, 1, v2, rfl, rfl, hth, atI_nat (j := 1) rfl, st, r, ob, v1, v2, d1, d2, ins, eds, z, rfl, hB1, hK, h11, h21, fin⟩
    · refine ⟨_, rfl, rfl, _, rfl, ite_f (str_f (by decide +kernel)) ?_⟩
      refine ⟨_, rfl, rfl, _, rfl, ite_f (str_f (by decide +kernel)) ?_⟩
      refine ⟨_, rfl, rfl, _, rfl, ite_f (str_f (by decide +kernel)) ?_⟩
      refine ⟨_, rfl, rfl, _, rfl, iteT ?_⟩
      have hth : SqT K H1 th [v1, v2] := hth
      exact ⟨.ref ob, rfl, ob, dx, _, rfl, hO, no "add_group" (by decide +kernel) (by decide +kernel) (by decide +kernel), .ref th, rfl, th, _, 0, v1, rfl, rfl, hth, atI_nat (j := 0) rfl, .ref th, rfl, th, _, 1, v2, rfl, rfl, hth, atI_nat (j := 1) rfl, st, r, ob, v1, v2, d1, d2, ins, eds, z, rfl, hB1, hK, h11, h21, fin⟩
    · refine ⟨_, rfl, rfl, _, rfl, ite_f (str_f (by decide +kernel)) ?_⟩
      refine ⟨_, rfl, rfl, _, rfl, ite_f (str_f (by decide +kernel)) ?_⟩
      refine ⟨_, rfl, rfl, _, rfl, ite_f (str_f (by decide +kernel)) ?_⟩
      refine ⟨_, rfl, rfl, _, rfl, ite_f (str_f (by decide +kernel)) ?_⟩
      refine ⟨_, rfl, rfl, _, rfl, iteT ?_⟩
      have hth : SqT K H1 th [v1] := hth
      exact ⟨.ref ob, rfl, ob, dx, _, rfl, hO, no "remove_group" (by decide +kernel) (by decide +kernel) (by decide +kernel), .ref th, rfl, th, _, 0, v1, rfl, rfl, hth, atI_nat (j := 0) rfl, st, r, ob, v1, v2, d1, d2, ins, eds, z, rfl, hB1, hK, h11, h21, fin⟩
    · refine ⟨_, rfl, rfl, _, rfl, ite_f (str_f (by decide +kernel)) ?_⟩
      refine ⟨_, rfl, rfl, _, rfl, ite_f (str_f (by decide +kernel)) ?_⟩
      refine ⟨_, rfl, rfl, _, rfl, ite_f (str_f (by decide +kernel)) ?_⟩
      refine ⟨_, rfl, rfl, _, rfl, ite_f (str_f (by decide +kernel)) ?_⟩
      refine ⟨_, rfl, rfl, _, rfl, ite_f (str_f (by decide +kernel)) ?_⟩
      refine ⟨_, rfl, rfl, _, rfl, iteT ?_⟩
      have hth : SqT K H1 th [v1] := hth
      exact ⟨.ref ob, rfl, ob, dx, _, rfl, hO, no "add_post" (by decide +kernel) (by decide +kernel) (by decide +kernel), .ref th, rfl, th, _, 0, v1, rfl, rfl, hth, atI_nat (j := 0) rfl, st, r, ob, v1, v2, d1, d2, ins, eds, z, rfl, hB1, hK, h11, h21, fin⟩
    · refine ⟨_, rfl, rfl, _, rfl, ite_f (str_f (by decide +kernel)) ?_⟩
      refine ⟨_, rfl, rfl, _, rfl, ite_f (str_f (by decide +kernel)) ?_⟩
      refine ⟨_, rfl, rfl, _, rfl, ite_f (str_f (by decide +kernel)) ?_⟩
      refine ⟨_, rfl, rfl, _, rfl, ite_f (str_f (by decide +kernel)) ?_⟩
      refine ⟨_, rfl, rfl, _, rfl, ite_f (str_f (by decide +kernel)) ?_⟩
      refine ⟨_, rfl, rfl, _, rfl, ite_f (str_f (by decide +kernel)) ?_⟩
      have hth : SqT K H1 th [v1] := hth
      exact ⟨.ref ob, rfl, ob, dx, _, rfl, hO, no "remove_post" (by decide +kernel) (by decide +kernel) (by decide +kernel), .ref th, rfl, th, _, 0, v1, rfl, rfl, hth, atI_nat (j := 0) rfl, st, r, ob, v1, v2, d1, d2, ins, eds, z, rfl, hB1, hK, h11, h21, fin⟩
end
end Pv
namespace Pv
open PySem PySem.Spec PyProof.Rows L2
/-! a comprehension whose elements only make new objects -/
def LcP {α : Type} (H1 : Hp) (D : Addr) (zs : List α) (F : α → Option V) (i : Nat) (H : Hp) : Prop := Same H1 H ∧ H D = some (.lst ((zs.take i).filterMap F))
section
variable {α : Type} {H1 H H' : Hp} {D : Addr} {zs : List α} {F : α → Option V} {i : Nat} {x : α} {y : V}
theorem LcP.start (nD : H1 D = none) : LcP H1 D zs F 0 (upd H1 D (.lst [])) := ⟨sameNew nD, by rw [upd_same]; rfl⟩
theorem LcP.yes (h : LcP H1 D zs F i H) (nD : H1 D = none) (s : Same H H') (hx : zs[i]? = some x) (hF : F x = some y) (hi : i ≤ 1000000) : ∃ acc, H' D = some (.lst acc) ∧ acc.length < sizeLine ∧ LcP H1 D zs F (i + 1) (upd H' D (.lst (acc ++ [y]))) := by
  refine ⟨_, s _ _ h.2, ?_, samePut (h.1.trans s) nD, ?_⟩
  · have h1 := List.length_filterMap_le F (zs.take i)
    have h2 := List.length_take_le i zs
    exact small (by omega)
  · rw [upd_same, take_snoc hx, List.filterMap_append]
    simp [hF]
theorem LcP.no (h : LcP H1 D zs F i H) (s : Same H H') (hx : zs[i]? = some x) (hF : F x = none) : LcP H1 D zs F (i + 1) H' := by
  refine ⟨h.1.trans s, ?_⟩
  rw [s _ _ h.2, take_snoc hx, List.filterMap_append]
  simp [hF]
theorem LcP.done (h : LcP H1 D zs F i H) (hi : zs.length ≤ i) : H D = some (.lst (zs.filterMap F)) := by have := h.2; rwa [List.take_of_length_le hi] at this
end
def Rl {β : Type} (R : V → β → Prop) (vs : List V) (rs : List β) : Prop := vs.length = rs.length ∧ ∀ (j : Nat) (v : V) (r : β), vs[j]? = some v → rs[j]? = some r → R v r
section
variable {β : Type} {R R' : V → β → Prop} {vs : List V} {rs : List β}
theorem Rl.nil : Rl R [] [] := ⟨rfl, fun j v r h => by simp at h⟩
theorem Rl.mono (h : Rl R vs rs) (f : ∀ v r, R v r → R' v r) : Rl R' vs rs := ⟨h.1, fun j v r h1 h2 => f _ _ (h.2 j v r h1 h2)⟩
theorem Rl.snoc {v : V} {r : β} (h : Rl R vs rs) (hv : R v r) : Rl R (vs ++ [v]) (rs ++ [r]) := by
  refine ⟨by simp [h.1], fun j v' r' h1 h2 => ?_⟩
  by_cases hj : j < vs.length
  · rw [List.getElem?_append_left hj] at h1
    rw [List.getElem?_append_left (by rw [← h.1]; exact hj)] at h2
    exact h.2 j v' r' h1 h2
  · rw [List.getElem?_append_right (by omega)] at h1
    rw [List.getElem?_append_right (by rw [← h.1]; omega)] at h2
    have e : j - vs.length = 0 := by have := (List.getElem?_eq_some_iff.mp h1).1; simp at this; omega
    rw [e] at h1
    rw [← h.1, e] at h2
    simp at h1 h2
    rw [← h1, ← h2]; exact hv
theorem Rl.at {j : Nat} {v : V} (h : Rl R vs rs) (hv : vs[j]? = some v) : ∃ r, rs[j]? = some r ∧ R v r := by
  have hj : j < rs.length := by rw [← h.1]; exact (List.getElem?_eq_some_iff.mp hv).1
  exact ⟨rs[j], List.getElem?_eq_getElem hj, h.2 j v _ hv (List.getElem?_eq_getElem hj)⟩
end
section
variable {X : Cx}
def rEqNilT (K : PySem.W.Frag) : R2 := fun x y H Q => ∃ (a b : Addr) (xs : List V), x = .ref a ∧ y = .ref b ∧ SqT K H a xs ∧ SqT K H b [] ∧ Q (.bl xs.isEmpty) H
end
end Pv
namespace Pv
open PySem PySem.Spec PyProof.Rows L2 SX
/-! texts: the rules under short names, and the text of a whole number -/
def rJnS (K : PySem.W.Frag) : V → List V → Hp → VK → Prop := fun x xs H Q => ∃ a p, ∃ ys : List Str, x = .str a ∧ xs = [.ref p] ∧ (SqL K H p (ys.map V.str) ∨ SqT K H p (ys.map V.str)) ∧ (ys.map (·.length)).sum + ys.length * a.length ≤ 16777216 ∧ Q (.str (Txt.join a ys)) H
def rSpS : V → List V → Hp → VK → Prop := fun x xs H Q => ∃ a b, x = .str a ∧ xs = [.str b] ∧ (b.length == 0) = false ∧ a.length + 2 ≤ sizeLine ∧ rNewStrs (Txt.split a b) H Q
def rTxt0 (g : Str → Bool) : V → List V → Hp → VK → Prop := fun x xs H Q => ∃ a, x = .str a ∧ xs = [] ∧ True ∧ Q (.bl (g a)) H
def rTxt1 (g : Str → Str → Bool) : V → List V → Hp → VK → Prop := fun x xs H Q => ∃ a b, x = .str a ∧ xs = [.str b] ∧ Q (.bl (g a b)) H
def rStrI : RC := fun xs H Q => ∃ i, xs = [.int i] ∧ i.natAbs.log2 < 1920 ∧ Q (.str (toString i)) H
def rIntS : RC := fun xs H Q => ∃ a n, xs = [.str a] ∧ PySem.intText? a = some n ∧ a.length ≤ 640 ∧ Q (.int n) H
def rLenS : RC := fun xs H Q => ∃ z, xs = [.str z] ∧ z.length ≤ sizeLine ∧ Q (.int z.length) H
section
variable {X : Cx}
theorem call_strQ : CallR X (.type "str") rStrI := call_str_int
end
/-- the signs of a number's text -/
def numT (i : Int) : List Nat := TL.numL i.toNat
end Pv
namespace Pv
open PySem PySem.Spec PyProof.Rows L2 SX
/-! a number's text is ascii, digits, and begins with 0 only for 0 -/
end Pv
namespace Pv
open PySem PySem.Spec PyProof.Rows L2 SX
/-! what parse_number reads of any text -/
def digL (a : List Nat) : Bool := a.all (fun c => decide (48 ≤ c) && decide (c ≤ 57))
def pnO (a : List Nat) : Option Int := if a ≠ [] ∧ digL a = true then (if 30 < a.length then none else if a.head? = some 48 ∧ 1 < a.length then none else some (NumText.digitsVal a : Nat)) else none
def oV : Option Int → V
  | some n => .int n
  | none => .non
def oD : Option Int → PyData
  | some n => .int n
  | none => .none
end Pv
namespace Pv
open PySem PySem.Spec PyProof.Rows L2 SX
/-! words of a text -/
theorem pre_one (c d : Nat) (r : List Nat) : TL.pre [c] (d :: r) = decide (d = c) := by
  unfold TL.pre
  rw [Bool.eq_iff_iff]
  simp
def wds (c : Nat) (a : List Nat) : List (List Nat) := TL.spl [c] 0 [] a
def dWs (ws : List (List Nat)) : List PyData := ws.map fun a => oD (pnO a)
end Pv
namespace Pv
open PySem PySem.Spec PyProof.Rows L2 SX
/-! how long a run of digits is in a text; what a word is to the law -/
def RB (p : Nat → Bool) (B : Nat) (a : List Nat) : Prop := ∀ i n, ((a.drop i).take n).all p = true → ((a.drop i).take n).length ≤ B
abbrev dg (c : Nat) : Bool := decide (48 ≤ c) && decide (c ≤ 57)
abbrev nl (c : Nat) : Bool := !decide (c = 10)
section
variable {p : Nat → Bool}
theorem RB.mono {B C : Nat} {a : List Nat} (h : RB p B a) (k : B ≤ C) : RB p C a := fun i n hd => Nat.le_trans (h i n hd) k
theorem RB.all {B : Nat} {a : List Nat} (h : RB p B a) (hd : a.all p = true) : a.length ≤ B := by
  have := h 0 a.length
  rw [List.drop_zero, List.take_length] at this
  exact this hd
theorem RB.len {B : Nat} {a : List Nat} (h : a.length ≤ B) : RB p B a := fun i n _ => by rw [List.length_take, List.length_drop]; omega
theorem RB.app {B C : Nat} {a b : List Nat} (h : RB p B a) (k : RB p C b) : RB p (B + C) (a ++ b) := by
  intro i n hd
  rw [List.drop_append, List.take_append, List.all_append, Bool.and_eq_true] at hd
  rw [List.drop_append, List.take_append, List.length_append]
  have h1 := h i n hd.1
  have h2 := k _ _ hd.2
  omega
theorem RB.sub {B : Nat} {a u b v : List Nat} (h : RB p B a) (e : a = u ++ (b ++ v)) : RB p B b := by
  intro i n hd
  have key : (a.drop (u.length + i)).take (min n (b.length - i)) = (b.drop i).take n := by
    rw [e, List.drop_append, List.drop_eq_nil_of_le (by omega), List.nil_append, show u.length + i - u.length = i by omega, List.drop_append, List.take_append_of_le_length (by rw [List.length_drop]; omega)]
    by_cases z : n ≤ b.length - i
    · rw [Nat.min_eq_left z]
    · rw [Nat.min_eq_right (by omega), List.take_of_length_le (by rw [List.length_drop]; omega), List.take_of_length_le (by rw [List.length_drop]; omega)]
  have := h (u.length + i) (min n (b.length - i))
  rw [key] at this
  exact this hd
theorem RB.take {B : Nat} {a : List Nat} (h : RB p B a) (k : Nat) : RB p B (a.take k) := h.sub (u := []) (v := a.drop k) (by simp)
theorem RB.drop {B : Nat} {a : List Nat} (h : RB p B a) (k : Nat) : RB p B (a.drop k) := h.sub (u := a.take k) (v := []) (by simp)
theorem RB.sep {B : Nat} {a b : List Nat} {c : Nat} (h : RB p B a) (k : RB p B b) (hc : p c = false) : RB p B (a ++ (c :: b)) := by
  intro i n hd
  rw [List.drop_append, List.take_append, List.all_append, Bool.and_eq_true] at hd
  rw [List.drop_append, List.take_append, List.length_append]
  by_cases z : i ≤ a.length
  · have e0 : i - a.length = 0 := by omega
    rw [e0, List.drop_zero] at hd ⊢
    cases em : n - (a.drop i).length with
    | zero => rw [List.take_zero, List.length_nil, Nat.add_zero]; exact h i n hd.1
    | succ m =>
      rw [em, List.take_succ_cons, List.all_cons, hc] at hd
      exact absurd hd.2 Bool.false_ne_true
  · obtain ⟨j, ej⟩ : ∃ j, i - a.length = j + 1 := ⟨i - a.length - 1, by omega⟩
    rw [ej, List.drop_succ_cons] at hd ⊢
    have h2 := k _ _ hd.2
    rw [List.drop_eq_nil_of_le (by omega)] at h2 ⊢
    simp at h2 ⊢
    exact h2
theorem RB.join {B : Nat} {c : Nat} (hc : p c = false) : ∀ {l : List (List Nat)}, (∀ w ∈ l, RB p B w) → RB p B (TL.joinL [c] l)
  | [], _ => RB.len (by simp [TL.joinL])
  | [w], h => by simpa [TL.joinL] using h w (List.mem_cons_self ..)
  | w :: q :: l, h => by
    have h1 := h w (List.mem_cons_self ..)
    have h2 := RB.join hc (l := q :: l) fun r hr => h r (List.mem_cons_of_mem _ hr)
    exact h1.sep h2 hc
end
theorem spl_in (c : Nat) : ∀ (l acc : List Nat), ∀ w ∈ TL.spl [c] 0 acc l, ∃ u v, acc ++ l = u ++ (w ++ v)
  | [], acc => by rw [TL.spl_nil]; intro w hw; simp at hw; exact ⟨[], [], by simp [hw]⟩
  | d :: r, acc => by
    intro w hw
    by_cases h : TL.pre [c] (d :: r) = true
    · rw [TL.spl_hit h] at hw
      rcases List.mem_cons.mp hw with rfl | hw
      · exact ⟨[], d :: r, by simp⟩
      · obtain ⟨u, v, e⟩ := spl_in c r [] w hw
        rw [List.nil_append] at e
        exact ⟨acc ++ (d :: u), v, by rw [e]; simp⟩
    · rw [TL.spl_miss (by simpa using h)] at hw
      obtain ⟨u, v, e⟩ := spl_in c r (acc ++ [d]) w hw
      exact ⟨u, v, by rw [← e]; simp⟩
theorem spl_not (c : Nat) : ∀ (l acc : List Nat), c ∉ acc → ∀ w ∈ TL.spl [c] 0 acc l, c ∉ w
  | [], acc, h0 => by rw [TL.spl_nil]; intro w hw; simp at hw; rw [hw]; exact h0
  | d :: r, acc, h0 => by
    intro w hw
    by_cases h : TL.pre [c] (d :: r) = true
    · rw [TL.spl_hit h] at hw
      rcases List.mem_cons.mp hw with rfl | hw
      · exact h0
      · exact spl_not c r [] (by simp) w hw
    · rw [TL.spl_miss (by simpa using h)] at hw
      refine spl_not c r (acc ++ [d]) (fun e => ?_) w hw
      rcases List.mem_append.mp e with e | e
      · exact h0 e
      · rw [List.mem_singleton] at e
        rw [pre_one] at h
        exact h (decide_eq_true e.symm)
theorem wds_not {c : Nat} {a w : List Nat} (hw : w ∈ wds c a) : c ∉ w := spl_not c a [] (by simp) w hw
theorem RB.word {p : Nat → Bool} {B c : Nat} {a w : List Nat} (h : RB p B a) (hw : w ∈ wds c a) : RB p B w := by
  obtain ⟨u, v, e⟩ := spl_in c a [] w hw
  exact h.sub (by rwa [List.nil_append] at e)
theorem nl_all {w : List Nat} (h : 10 ∉ w) : w.all nl = true := List.all_eq_true.mpr fun c hc => by
  have : ¬ c = 10 := fun e => h (e ▸ hc)
  simp [nl, this]
theorem RB.line {B : Nat} {a w : List Nat} (h : RB nl B a) (hw : w ∈ wds 10 a) : w.length ≤ B := (h.word hw).all (nl_all (wds_not hw))
/-! numbers -/
def lnO (a : List Nat) : Int := if a = [] ∨ digL a = false then -1 else if a.head? = some 48 ∧ a ≠ [48] then -1 else (NumText.digitsVal a : Nat)
end Pv
/-! set(l) of a list of ints, as cr_setT has it for a tuple -/
namespace Pv
open PySem PySem.Spec PyProof.Rows L2
/-- a set just made -/
abbrev bareSet (w : World) : Obj := { cls := .type "set", dict := none, data := .set #[] 0 (.fresh 0 0 (!w.params.followText "set-order")) }
section
variable {P : Program} {w : World} {A : Around} {E : Value → Shared → Prop}
/-- what is left behind: the set of the ints ns at S, all else as it was -/
def SetLaid (w : World) (s s' : Shared) (S : Addr) (ns : List Int) : Prop :=
  ∃ h' tk c, s' = { s with heap := h', toks := tk } ∧ SetR w h' S (fun j => decide (j ∈ ns)) c ∧ c ≤ ns.length ∧ ∀ b o, b ≠ S → s.heap.get? b = some o → h'.get? b = some o
end
section
variable {X : Cx}
def rSetL (w : World) (K : PySem.W.Frag) : RC := fun vs H Q => ∃ (a : Addr) (ns : List Int), vs = [V.ref a] ∧ SqL K H a (ns.map V.int) ∧ ns.length < 64 ∧
  ∀ (p : Addr) (c : Nat), H p = none → (∃ ks : List Int, ks.Nodup ∧ (∀ k, k ∈ ks ↔ k ∈ ns) ∧ ks.length = c) → c ≤ ns.length → Q (.ref p) (upd H p (SetO w p (fun j => decide (j ∈ ns)) c))
end
end Pv
namespace Pv
open PySem PySem.Spec PyProof.Rows L2 SX
def rCatS : R2 := fun x y H Q => ∃ i j, x = .str i ∧ y = .str j ∧ i.length + j.length ≤ sizeLine ∧ Q (.str (i ++ j)) H
theorem op_catS {X : Cx} : OpR X (binaryOp .Add) rCatS := op_add_str
section
variable {X : Cx}
def rSetLW (w : World) (K : PySem.W.Frag) : RC := fun vs H Q => ∃ (a : Addr) (ns : List Int), vs = [V.ref a] ∧ SqL K H a (ns.map V.int) ∧ ns.length ≤ 4000 ∧
  ∀ (p : Addr) (c : Nat), H p = none → (∃ ks : List Int, ks.Nodup ∧ (∀ k, k ∈ ks ↔ k ∈ ns) ∧ ks.length = c) → c ≤ ns.length → Q (.ref p) (upd H p (SetO w p (fun j => decide (j ∈ ns)) c))
end
end Pv
namespace Pv
open PySem PySem.Spec PyProof.Rows L2
abbrev sTx : Stmt := topS 91
theorem scTx : FnScope ["_law_instance_here", "_law_many", "_law_total", "_law_first", "_law_posts", "_law_count"] ["_law_instance_here", "_law_many"] (defScope sTx) := ⟨rfl, rfl, rfl, by decide +kernel, rfl, by decide +kernel, by decide +kernel⟩
abbrev sSe : Stmt := topS 92
theorem scSe : FnScope ["_law_bench"] ["_law_bench"] (defScope sSe) := ⟨rfl, rfl, rfl, by decide +kernel, rfl, by decide +kernel, by decide +kernel⟩
abbrev sDS : Stmt := topS 93
theorem scDS : FnScope ["_law_instance_here", "_law_edits_done"] ["_law_instance_here", "_law_edits_done"] (defScope sDS) := ⟨rfl, rfl, rfl, by decide +kernel, rfl, by decide +kernel, by decide +kernel⟩
abbrev sEq : Stmt := topS 75
theorem scEq : FnScope ["_law_one", "_law_other"] ["_law_one", "_law_other"] (defScope sEq) := ⟨rfl, rfl, rfl, by decide +kernel, rfl, by decide +kernel, by decide +kernel⟩
/-! texts have plain signs -/
def Sm (x : Str) : Prop := ∀ c ∈ x.cps.toList, c < 16 ^ 8
theorem Sm.app {a b : Str} (h : Sm a) (h' : Sm b) : Sm (a ++ b) := by
  intro c hc
  have e : (a ++ b).cps.toList = a.cps.toList ++ b.cps.toList := by
    show (a.cps ++ b.cps).toList = _
    simp
  rw [e] at hc
  rcases List.mem_append.mp hc with z | z
  · exact h c z
  · exact h' c z
theorem Sm.num {i : Int} (h : 0 ≤ i) : Sm (tI i) := by
  obtain ⟨n, rfl⟩ : ∃ n : Nat, i = n := ⟨i.toNat, by omega⟩
  unfold tI
  rw [SX.num_S]
  intro c hc
  have hc : c ∈ TL.numL n := by simpa [SX.S] using hc
  have := TL.numL_digits n c hc
  exact Nat.lt_of_le_of_lt this.2 (by decide)
theorem sm_bn {x : Ins} (io : InsOk x.1 x.2) (n : Nat) : Sm (bnT x n) := by
  have p1 : Sm (Str.ofString " posts, ") := by unfold Sm; decide +kernel
  have p2 : Sm (Str.ofString " groups, ") := by unfold Sm; decide +kernel
  have p3 : Sm (Str.ofString " applicants") := by unfold Sm; decide +kernel
  have p4 : Sm (Str.ofString ", ") := by unfold Sm; decide +kernel
  have p5 : Sm (Str.ofString " edits") := by unfold Sm; decide +kernel
  unfold bnT sumT
  exact (((((((((Sm.num (by omega)).app p1).app (Sm.num (by omega))).app p2).app (Sm.num (sumG_in io).1)).app p3).app p4).app (Sm.num (by omega))).app p5)
theorem bn_len {x : Ins} {n : Nat} (io : InsOk x.1 x.2) (hn : n ≤ 60) : (bnT x n).length ≤ 300 := by
  have sb := sumG_in io
  have h6 := io.c6
  have h10 := io.g10
  have t1 := tI_len (i := (x.1.length : Nat)) (by omega)
  have t2 := tI_len (i := (x.2.length : Nat)) (by omega)
  have t3 := tI_len (i := sumG x.2) (by omega)
  have t4 := tI_len (i := (n : Nat)) (by omega)
  have p1 : (Str.ofString " posts, ").length = 8 := by decide +kernel
  have p2 : (Str.ofString " groups, ").length = 9 := by decide +kernel
  have p3 : (Str.ofString " applicants").length = 11 := by decide +kernel
  have p4 : (Str.ofString ", ").length = 2 := by decide +kernel
  have p5 : (Str.ofString " edits").length = 6 := by decide +kernel
  unfold bnT sumT
  rw [sL, sL, sL, sL, sL, sL, sL, sL]; omega
theorem fine_bn {x : Ins} {n : Nat} (io : InsOk x.1 x.2) (hn : n ≤ 60) : Fine 0 3100 (.str (bnT x n)) := by
  refine ⟨by simp [PyData.showable], by simp [PyData.hasDict], by simp [PyData.depth], ?_⟩
  simp only [PyData.shown]
  have := StrLaws.reprText_len (bnT x n) (sm_bn io n)
  have := bn_len io hn
  omega
/-- edits that stand are small -/
def EdsF (eds : List PyData) : Prop := ∀ d ∈ eds, Fine 3 3000 d
theorem fine_arg {a b : Int} {d : PyData} (ha : 0 ≤ a) (hb : b ≤ 10 ^ 12) (h : withinD a b d = true) : Fine 1 300 d := by
  obtain ⟨i, rfl, h1, h2⟩ := within_int h
  exact (fine_int (by omega)).mono (by omega) (by omega)
theorem fine_argL {n : Nat} {d : PyData} (hn : n ≤ 6) (h : listD n d = true) : Fine 1 300 d := by
  obtain ⟨a, b, c⟩ := list_in h
  obtain ⟨row, e, el⟩ := list_ints h
  rw [el] at a c
  rw [e]
  exact (fine_dI (n := 6) (fun i hi => by have := a i hi; omega) (by omega)).mono (by omega) (by omega)
theorem ed_fine {x : Ins} {w : Nat} {d1 d2 : PyData} (hw : w < 7) (I : InsOk x.1 x.2) (h : edFail x w d1 d2 = none) : Fine 3 3000 (dEd w d1 d2) := by
  obtain ⟨cs, gs⟩ := x
  have ok : InsOk cs gs := I
  have c6 := ok.c6
  have g10 := ok.g10
  have b0 : bnd 0 cs gs ≤ 10 ^ 12 := by unfold bnd; rw [if_pos rfl]; omega
  have b1 : ∀ k, k ≠ 0 → bnd k cs gs ≤ 10 ^ 12 := fun k hk => by unfold bnd; rw [if_neg hk]; omega
  have key : Fine 1 300 d1 ∧ (w < 4 → Fine 1 300 d2) := by
    have h7 : w = 0 ∨ w = 1 ∨ w = 2 ∨ w = 3 ∨ w = 4 ∨ w = 5 ∨ w = 6 := by omega
    rcases h7 with rfl | rfl | rfl | rfl | rfl | rfl | rfl
    · obtain ⟨a1, h⟩ := if_some (show (if ok1 0 cs gs d1 = false then some (0, 1) else if ok2 0 cs d2 = false then some (2, 2) else none) = none from h)
      obtain ⟨a2, _⟩ := if_some h
      exact ⟨fine_arg (Int.le_refl _) b0 (ne_ff a1), fun _ => fine_arg (a := 1) (b := 10 ^ 12) (by decide) (Int.le_refl _) (ne_ff a2)⟩
    · obtain ⟨a1, h⟩ := if_some (show (if ok1 1 cs gs d1 = false then some (1, 1) else if ok2 1 cs d2 = false then some (2, 2) else none) = none from h)
      obtain ⟨a2, _⟩ := if_some h
      exact ⟨fine_arg (Int.le_refl _) (b1 1 (by decide)) (ne_ff a1), fun _ => fine_arg (a := 1) (b := 10 ^ 12) (by decide) (Int.le_refl _) (ne_ff a2)⟩
    · obtain ⟨a1, h⟩ := if_some (show (if ok1 2 cs gs d1 = false then some (1, 1) else if ok2 2 cs d2 = false then some (3, 2) else none) = none from h)
      obtain ⟨a2, _⟩ := if_some h
      exact ⟨fine_arg (Int.le_refl _) (b1 2 (by decide)) (ne_ff a1), fun _ => fine_argL c6 (ne_ff a2)⟩
    · obtain ⟨a1, h⟩ := if_some (show (if listD cs.length d1 = false then some (3, 1) else if withinD 1 (10 ^ 12) d2 = false then some (2, 2) else if 10 ≤ gs.length then some (4, 4) else none) = none from h)
      obtain ⟨a2, _⟩ := if_some h
      exact ⟨fine_argL c6 (ne_ff a1), fun _ => fine_arg (by decide) (Int.le_refl _) (ne_ff a2)⟩
    · obtain ⟨a1, _⟩ := if_some (show (if ok1 1 cs gs d1 = false then some (1, 1) else if gs.length = 1 then some (5, 0) else none) = none from h)
      exact ⟨fine_arg (Int.le_refl _) (b1 1 (by decide)) (ne_ff a1), fun z => absurd z (by decide)⟩
    · obtain ⟨a1, _⟩ := if_some (show (if withinD 1 (10 ^ 12) d1 = false then some (2, 1) else if 6 ≤ cs.length then some (4, 3) else none) = none from h)
      exact ⟨fine_arg (by decide) (Int.le_refl _) (ne_ff a1), fun z => absurd z (by decide)⟩
    · obtain ⟨a1, _⟩ := if_some (show (if ok1 0 cs gs d1 = false then some (0, 1) else if cs.length = 1 then some (5, 0) else none) = none from h)
      exact ⟨fine_arg (Int.le_refl _) b0 (ne_ff a1), fun z => absurd z (by decide)⟩
  have fs : Fine 1 300 (.str (edW w)) := by
    refine ⟨by simp [PyData.showable], by simp [PyData.hasDict], by simp [PyData.depth], ?_⟩
    simp only [PyData.shown]
    have h7 : w = 0 ∨ w = 1 ∨ w = 2 ∨ w = 3 ∨ w = 4 ∨ w = 5 ∨ w = 6 := by omega
    rcases h7 with rfl | rfl | rfl | rfl | rfl | rfl | rfl <;> decide +kernel
  unfold dEd
  by_cases h4 : w < 4
  · rw [if_pos h4]
    refine (fine_tup (k := 1) (B := 300) (n := 3) (fun d hd => ?_) (by simp)).mono (by omega) (by omega)
    simp at hd
    rcases hd with rfl | rfl | rfl
    · exact fs
    · exact key.1
    · exact key.2 h4
  · rw [if_neg h4]
    refine (fine_tup (k := 1) (B := 300) (n := 3) (fun d hd => ?_) (by simp)).mono (by omega) (by omega)
    simp at hd
    rcases hd with rfl | rfl
    · exact fs
    · exact key.1
/-- what is seen of a bench -/
def seenD (x : Ins) (eds : List PyData) : PyData := .tuple [dI2 x, .tuple eds, .int (eds.length : Nat), .str (bnT x eds.length)]
theorem to_seen {x : Ins} {eds : List PyData} (h : tupOnlyAll eds = true) : tupOnly (seenD x eds) = true := by
  show (tupOnly (dInst x.1 x.2) && (tupOnlyAll eds && (true && (true && true)))) = true
  rw [to_dInst, h]; rfl
theorem fine_eds {eds : List PyData} (h : EdsF eds) (hn : eds.length ≤ 61) : Fine 4 200000 (.tuple eds) := (fine_tup h hn).mono (by omega) (by omega)
theorem fine_seen {x : Ins} {eds : List PyData} (io : InsOk x.1 x.2) (h : EdsF eds) (hn : eds.length ≤ 60) : Fine 5 900000 (seenD x eds) := by
  refine (fine_tup (k := 4) (B := 200000) (n := 4) (fun d hd => ?_) (by simp)).mono (by omega) (by omega)
  simp at hd
  rcases hd with rfl | rfl | rfl | rfl
  · exact (fine_inst io).mono (by omega) (by omega)
  · exact fine_eds h (by omega)
  · exact (fine_int (by omega)).mono (by omega) (by omega)
  · exact (fine_bn io hn).mono (by omega) (by omega)
def seensD (ins : List Ins) (eds : List PyData) : List PyData := (List.range ins.length).map fun k => seenD (ins.getD k ([], [])) (eds.take k)
theorem sd_to {ins : List Ins} {eds : List PyData} (h : tupOnlyAll eds = true) : tupOnlyAll (seensD ins eds) = true := by
  refine tupOnlyAll_of fun d hd => ?_
  obtain ⟨k, _, rfl⟩ := List.mem_map.mp hd
  exact to_seen (to_take k h)
/-- the list of what was seen, one for each version -/
def SeenAt (K : PySem.W.Frag) (H : Hp) (sl : Addr) (ins : List Ins) (eds : List PyData) : Prop := ∃ sv, H sl = some (.lst sv) ∧ DpAll K H sv (seensD ins eds)
theorem SeenAt.keep {K : PySem.W.Frag} {H H' : Hp} {sl : Addr} {ins : List Ins} {eds : List PyData} (h : SeenAt K H sl ins eds) (hb : ∀ o, H sl = some o → H' sl = some o) (tk : TupK H H') (te : tupOnlyAll eds = true) : SeenAt K H' sl ins eds := by
  obtain ⟨sv, h1, h2⟩ := h
  exact ⟨sv, hb _ h1, tk.dpAll _ _ (sd_to te) h2⟩
theorem tk_ex {H H' : Hp} {b C dx : Addr} {fs : List (Str × V)} (h : H b = some (.ins C dx fs)) (x : Ex1 b H H') : TupK H H' := by
  intro a xs
  refine ⟨fun e => x _ _ e fun q => ?_, fun u e => x _ _ e fun q => ?_⟩
  · rw [q, h] at e; cases e
  · rw [q, h] at e; cases e
def spTx (K : PySem.W.Frag) : Sp := fun vs H Q _ => ∃ (i : Addr) (x : Ins) (n : Nat), vs = [.ref i, .int (n : Nat)] ∧ Dp K H (.ref i) (dI2 x) ∧ InsOk x.1 x.2 ∧ n ≤ 60 ∧ ∀ H', Same H H' → Q (.str (bnT x n)) H'
def spSn (K : PySem.W.Frag) (C : Addr) : Sp := fun vs H Q _ => ∃ (ob : Addr) (ins : List Ins) (eds : List PyData) (z : Bool), vs = [.ref ob] ∧ BnAt K C H ob ins eds z ∧ BnOk ins eds ∧ ∀ (H' : Hp) (p i M : Addr), Same H H' → SqT K H' p [.ref i, .ref M, .int (eds.length : Nat), .str (bnT (lastI ins) eds.length)] → Dp K H' (.ref i) (dI2 (lastI ins)) → Dp K H' (.ref M) (.tuple eds) → Q (.ref p) H'
def spDS (K : PySem.W.Frag) : Sp := fun vs H Q _ => ∃ (i M : Addr) (x : Ins) (eds : List PyData), vs = [.ref i, .ref M] ∧ Dp K H (.ref i) (dI2 x) ∧ InsOk x.1 x.2 ∧ Dp K H (.ref M) (.tuple eds) ∧ eds.length ≤ 60 ∧ ∀ (H' : Hp) (p : Addr), Same H H' → SqT K H' p [.ref i, .ref M, .int (eds.length : Nat), .str (bnT x eds.length)] → Q (.ref p) H'
def spEq2 (K : PySem.W.Frag) : Sp := fun vs H Q _ => ∃ (a b : V) (d : PyData), vs = [a, b] ∧ Dp K H a d ∧ Dp K H b d ∧ tupOnly d = true ∧ Fine 60 5000000 d ∧ Q (.bl true) H
def spNo (K : PySem.W.Frag) (C : Addr) : Sp := fun vs H Q _ => ∃ (ob : Addr) (ins : List Ins), vs = [.ref ob] ∧ BnAt K C H ob ins [] false ∧ BnOk ins [] ∧ ∀ H', Same H H' → Q (.bl true) H'
def spUR (K : PySem.W.Frag) (C : Addr) : Sp := fun vs H Q _ => ∃ (ob sl : Addr) (ins : List Ins) (eds : List PyData), vs = [.ref ob, .ref sl] ∧ BnAt K C H ob ins eds false ∧ BnOk ins eds ∧ EdsF eds ∧ SeenAt K H sl ins eds ∧ eds ≠ [] ∧
  ∀ H', BnAt K C H' ob (ins.take (ins.length - 1)) (eds.take (eds.length - 1)) false → BnOk (ins.take (ins.length - 1)) (eds.take (eds.length - 1)) → EdsF (eds.take (eds.length - 1)) → SeenAt K H' sl (ins.take (ins.length - 1)) (eds.take (eds.length - 1)) →
    Ext ob sl H H' → Q (.bl true) H'
theorem dp_seen {K : PySem.W.Frag} {H : Hp} {p i M : Addr} {x : Ins} {eds : List PyData} (h : SqT K H p [.ref i, .ref M, .int (eds.length : Nat), .str (bnT x eds.length)]) (h1 : Dp K H (.ref i) (dI2 x)) (h2 : Dp K H (.ref M) (.tuple eds)) : Dp K H (.ref p) (seenD x eds) :=
  .tup h (.cons h1 (.cons h2 (.cons (.int _) (.cons (.str _) .nil))))
section
variable {P : Program} {w : World} {K : PySem.W.Frag} {mg : Str → Option Value} {base : Heap}
set_option maxHeartbeats 16000000 in
theorem ok_Tx {f : Addr} {fd : FuncData} (F : Fun K "_law_text" "_law_text" sTx f fd)
    (m_sum : mg "sum" = none) (m_len : mg "len" = none) (m_str : mg "str" = none) :
    FnOk P w K mg base CX0 1 f fd ["_law_instance_here", "_law_many"] (spTx K) := by
  refine F.ok scTx (fun vs H Q E h => ?_) (fun cdv A outer s H vs Q E hr h => ?_)
  · obtain ⟨i, x, n, rfl, _⟩ := h; rfl
  · obtain ⟨i, x, n, rfl, hI, ok, hn, q⟩ := h
    refine ⟨_, pss_cons (ps_set (i := 2) scTx.nd rfl (.inl rfl) (pe_callB (cr_sum rfl) (by rfl) m_sum (by decide +kernel) (pa_cons (pe_lc (own := [("_law_posts", 4), ("_law_count", 5)]) (g := gTup K 2 (gCons (gName 4) (gCons (gName 5) gNil))) (tt := tYes) (te := tVar 5) rfl scTx.nd (pi_tup (pe_ix ix_tup (pv 0) (pe_int) (fun _ _ => rfl))) (blkOk_by (N := ["_law_instance_here", "_law_many", "_law_total", "_law_first", "_law_posts", "_law_count"]) (sc := defScope sTx) (by decide +kernel)) (fun _ _ _ _ _ => pg_tup rfl (pgs_cons (pg_name (i := 4) scTx.nd rfl (.inl rfl)) (pgs_cons (pg_name (i := 5) scTx.nd rfl (.inl rfl)) pgs_nil))) (fun _ _ _ _ _ => pts_nil) (fun _ _ _ _ _ => pv 5)) pa_nil)))
      (pss_cons (ps_set (i := 3) scTx.nd rfl (.inl rfl) (pe_op op_catS (pe_op op_catS (pe_op op_catS (pe_callTy call_strQ (by rfl) m_str (by decide +kernel) (pa_cons (pe_callB call_lenQ (by rfl) m_len PySem.boot_len (pa_cons (pe_ix ix_tup (pv 0) (pe_int) (fun _ _ => rfl)) pa_nil)) pa_nil)) (pe_str)) (pe_callTy call_strQ (by rfl) m_str (by decide +kernel) (pa_cons (pe_callB call_lenQ (by rfl) m_len PySem.boot_len (pa_cons (pe_ix ix_tup (pv 0) (pe_int) (fun _ _ => rfl)) pa_nil)) pa_nil))) (pe_str)))
      (pss_one (ps_ret (pe_op op_catS (pe_op op_catS (pe_op op_catS (pe_op op_catS (pv 3) (pe_callTy call_strQ (by rfl) m_str (by decide +kernel) (pa_cons (pv 2) pa_nil))) (pe_str)) (pe_callTy call_strQ (by rfl) m_str (by decide +kernel) (pa_cons (pv 1) pa_nil))) (pe_str))))), ?_⟩
    obtain ⟨cs, gs⟩ := x
    have ok : InsOk cs gs := ok
    have hI : Dp K H (.ref i) (dInst cs gs) := hI
    have p1 : (Str.ofString " posts, ").length = 8 := by decide +kernel
    have p2 : (Str.ofString " groups, ").length = 9 := by decide +kernel
    have p3 : (Str.ofString " applicants, ").length = 13 := by decide +kernel
    have p4 : (Str.ofString " edits").length = 6 := by decide +kernel
    obtain ⟨_, ca, ga, xs, e, hi, hc, hgt, hgs⟩ := inst_open hI
    cases e
    have lx := DpAll.len hgs
    rw [List.length_map] at lx
    have h6 := ok.c6
    have h10 := ok.g10
    refine ⟨.ref i, rfl, i, _, 1, .ref ga, rfl, rfl, hi, atI_nat (j := 1) rfl, ga, rfl, ⟨_, hgt⟩, fun D nD => lc_it (walk_tup (K := K) (a := ga) (xs := xs))
      (fun k H1 => Same H H1 ∧ H1 D = some (.lst (((gs.take k).map (·.2)).map V.int))) ⟨sameNew nD, upd_same⟩ (fun k H1 _ h => (TupK.of h.1).sq hgt) ?_ ?_⟩
    · rintro k w H1 H2 hk ⟨s1, e1⟩ ⟨rfl, hw⟩
      have hkg : k < gs.length := by omega
      have hg := List.getElem?_eq_getElem hkg
      obtain ⟨gA, pA, hx, hG, hP⟩ := grp_at hgs hg
      rw [hx] at hw
      cases hw
      refine ⟨gA, _, rfl, (TupK.of s1).sq hG, rfl, _, _, rfl, _, _, rfl, rfl, rfl, .int gs[k].2, rfl, _, e1, by rw [List.length_map, List.length_map, List.length_take]; exact small (by omega), samePut s1 nD, ?_⟩
      rw [upd_same, take_snocW hg, List.map_append, List.map_append]; rfl
    rintro H1 ⟨s1, e1⟩
    rw [lx, List.take_length] at e1
    have hi1 := (TupK.of s1).sq hi
    have sb := sumG_in ok
    have b1 : ((cs.length : Nat) : Int).natAbs < 10 ^ 20 := by omega
    have b2 : ((gs.length : Nat) : Int).natAbs < 10 ^ 20 := by omega
    have b3 : (sumG gs).natAbs < 10 ^ 20 := by omega
    have b4 : ((n : Nat) : Int).natAbs < 10 ^ 20 := by omega
    have t1 := tI_len b1
    have t2 := tI_len b2
    have t3 := tI_len b3
    have t4 := tI_len b4
    refine ⟨D, _, rfl, SqL.of e1, ?_⟩
    have ll : ((cs.map V.int).length : Int) = (cs.length : Nat) := by rw [List.length_map]
    have lg : ((xs.length : Nat) : Int) = (gs.length : Nat) := by rw [lx]
    refine ⟨.ref i, rfl, i, _, 0, .ref ca, rfl, rfl, hi1, atI_nat (j := 0) rfl, ca, _, rfl, .inr ((TupK.of s1).sq hc), ((cs.length : Nat) : Int), by rw [ll], tI_log b1, ?_⟩
    refine ⟨tI (cs.length : Nat), _, rfl, rfl, by rw [p1]; exact Nat.le_of_lt (small (by omega)), ?_⟩
    refine ⟨.ref i, rfl, i, _, 1, .ref ga, rfl, rfl, hi1, atI_nat (j := 1) rfl, ga, _, rfl, .inr ((TupK.of s1).sq hgt), ((gs.length : Nat) : Int), by rw [lg], tI_log b2, ?_⟩
    refine ⟨_, tI (gs.length : Nat), rfl, rfl, by rw [sL]; exact Nat.le_of_lt (small (by omega)), _, _, rfl, rfl, by rw [sL, sL]; exact Nat.le_of_lt (small (by omega)), ?_⟩
    refine ⟨_, rfl, .int (sumG gs), rfl, sumG gs, rfl, tI_log b3, ?_⟩
    refine ⟨_, tI (sumG gs), rfl, rfl, by rw [sL, sL, sL]; exact Nat.le_of_lt (small (by omega)), _, _, rfl, rfl, by rw [sL, sL, sL, sL]; exact Nat.le_of_lt (small (by omega)), ?_⟩
    refine ⟨.int (n : Nat), rfl, (n : Nat), rfl, tI_log b4, ?_⟩
    refine ⟨_, tI (n : Nat), rfl, rfl, by rw [sL, sL, sL, sL, sL]; exact Nat.le_of_lt (small (by omega)), _, _, rfl, rfl, by rw [sL, sL, sL, sL, sL, sL]; exact Nat.le_of_lt (small (by omega)), ?_⟩
    have e3 : Str.ofString " applicants, " = Str.ofString " applicants" ++ Str.ofString ", " := by decide +kernel
    have e4 : tI (cs.length : Nat) ++ Str.ofString " posts, " ++ tI (gs.length : Nat) ++ Str.ofString " groups, " ++ tI (sumG gs) ++ Str.ofString " applicants, " ++ tI (n : Nat) ++ Str.ofString " edits" = bnT (cs, gs) n := by
      rw [e3, ← sA]; rfl
    have := q H1 s1
    rw [← e4] at this
    exact this
set_option maxHeartbeats 16000000 in
theorem ok_Se {cNV : Addr} {f fBN fBD fBL fBT : Addr} {fd fdBN fdBD fdBL fdBT : FuncData} {ggBN : List Value → List Value → List Value} {cB : Addr} (T : BBx K mg cB) (F : Fun K "_law_seen" "_law_seen" sSe f fd)
    (FBN : Fun K "instance" "Bench.instance" sBN fBN fdBN) (bBN : KBn K fdBN ["self", "version"] 1 [] ggBN (fun vs _ => vs ++ [.non])) (mBN : Meth K cB "instance" fBN) (GBN : FnOk P w K mg base (CX P w) 4 fBN fdBN ["self", "version"] (spBN K cB cNV))
    (FBD : Fun K "edits" "Bench.edits" sBD fBD fdBD) (bBD : Binds K fdBD ["self"] []) (mBD : Meth K cB "edits" fBD) (GBD : FnOk P w K mg base CX0 1 fBD fdBD ["self"] (spBD K cB))
    (FBL : Fun K "__len__" "Bench.__len__" sBL fBL fdBL) (bBL : Binds K fdBL ["self"] []) (mBL : BDu K cB "__len__" fBL) (GBL : FnOk P w K mg base CX0 1 fBL fdBL ["self"] (spBL K cB))
    (FBT : Fun K "__str__" "Bench.__str__" sBT fBT fdBT) (bBT : Binds K fdBT ["self"] []) (mBT : BDu K cB "__str__" fBT) (GBT : FnOk P w K mg base CX0 2 fBT fdBT ["self"] (spBT K cB))
    (m_len : mg "len" = none) (m_str : mg "str" = none) :
    FnOk P w K mg base CX0 5 f fd ["_law_bench"] (spSn K cB) := by
  refine F.ok scSe (fun vs H Q E h => ?_) (fun cdv A outer s H vs Q E hr h => ?_)
  · obtain ⟨ob, ins, eds, z, rfl, _⟩ := h; rfl
  · obtain ⟨ob, ins, eds, z, rfl, hB, hK, q⟩ := h
    refine ⟨_, pss_one (ps_ret (pe_tup (pa_cons (pe_methN0 (pv 0) T.cl mBN GBN (hr.mono (by omega)) bBN (fun σ => passAt takes0 σ)) (pa_cons (pe_meth0 (pv 0) T.cl mBD GBD (hr.mono (by omega)) bBD .nil pass0) (pa_cons (pe_callB (call_lenOwn mBL.at_ mBL.fn GBL bBL (hr.mono (by omega)) pass0) (by rfl) m_len PySem.boot_len (pa_cons (pv 0) pa_nil)) (pa_cons (pe_callTy (call_strOwn mBT.at_ mBT.fn GBT bBT (hr.mono (by omega)) pass0) (by rfl) m_str (by decide +kernel) (pa_cons (pv 0) pa_nil)) pa_nil)))))), ?_⟩
    obtain ⟨dx, S, M, sv, mv, hO, hS, hM, dS, dM⟩ := hB.ob
    have no : ∀ m : Str, ¬ m = "states" → ¬ m = "made" → ¬ m = "stepping" → (fldsB S M z).lookup m = none := fun m a b c => fB_no S M z a b c
    have l60 := hK.l60
    refine ⟨.ref ob, rfl, ob, dx, _, rfl, hO, no "instance" (by decide +kernel) (by decide +kernel) (by decide +kernel), rfl, rfl, ob, ob, ob, .non, .none, ins, eds, z, rfl, hB, hK, .non, fun _ i hi => ?_, fun h => absurd rfl h, fun h => absurd rfl h⟩
    refine ⟨.ref ob, rfl, ob, dx, _, rfl, hO, no "edits" (by decide +kernel) (by decide +kernel) (by decide +kernel), ob, ins, eds, z, rfl, hB, fun M2 hM2 => ?_⟩
    refine ⟨.ref ob, rfl, ob, dx, _, rfl, hO, ob, ins, eds, z, rfl, hB, (eds.length : Nat), rfl, by omega, by omega, ?_⟩
    refine ⟨.ref ob, rfl, ob, dx, _, rfl, hO, ob, ins, eds, z, rfl, hB, hK, fun H1 s1 => ⟨_, rfl, (show (4 : Nat) ≤ sizeLine by decide), fun p np => ?_⟩⟩
    have s2 := sameNew (o := .tup [.ref i, .ref M2, .int (eds.length : Nat), .str (bnT (lastI ins) eds.length)]) np
    have tk := TupK.of (s1.trans s2)
    exact q _ p i M2 (s1.trans s2) (SqT.of upd_same) (tk.dp _ _ (to_dInst _ _) hi) (tk.dp _ _ (show tupOnlyAll eds = true from hK.to) hM2)
set_option maxHeartbeats 16000000 in
theorem ok_DS {f fTx : Addr} {fd fdTx : FuncData} (F : Fun K "_law_due_seen" "_law_due_seen" sDS f fd)
    (FTx : Fun K "_law_text" "_law_text" sTx fTx fdTx) (bTx : Binds K fdTx ["_law_instance_here", "_law_many"] []) (gTx : mg "_law_text" = some (.ref fTx)) (GTx : FnOk P w K mg base CX0 1 fTx fdTx ["_law_instance_here", "_law_many"] (spTx K))
    (m_len : mg "len" = none) :
    FnOk P w K mg base CX0 2 f fd ["_law_instance_here", "_law_edits_done"] (spDS K) := by
  refine F.ok scDS (fun vs H Q E h => ?_) (fun cdv A outer s H vs Q E hr h => ?_)
  · obtain ⟨i, M, x, eds, rfl, _⟩ := h; rfl
  · obtain ⟨i, M, x, eds, rfl, hI, ok, hM, hn, q⟩ := h
    refine ⟨_, pss_one (ps_ret (pe_tup (pa_cons (pv 0) (pa_cons (pv 1) (pa_cons (pe_callB call_lenQ (by rfl) m_len PySem.boot_len (pa_cons (pv 1) pa_nil)) (pa_cons (pe_call GTx (hr.mono (by omega)) (by rfl) gTx FTx.kp bTx .nil pass0 (pa_cons (pv 0) (pa_cons (pe_callB call_lenQ (by rfl) m_len PySem.boot_len (pa_cons (pv 1) pa_nil)) pa_nil))) pa_nil)))))), ?_⟩
    obtain ⟨mv, hmv, hme⟩ : ∃ mv, SqT K H M mv ∧ mv.length = eds.length := by
      cases hM with
      | tup h1 h2 => exact ⟨_, h1, DpAll.len h2⟩
    have le : ((mv.length : Nat) : Int) = (eds.length : Nat) := by rw [hme]
    refine ⟨.ref i, rfl, .ref M, rfl, .ref M, rfl, M, _, rfl, .inr hmv, ?_⟩
    rw [le]
    refine ⟨.ref i, rfl, .ref M, rfl, M, _, rfl, .inr hmv, i, x, eds.length, by rw [le]; rfl, hI, ok, hn, fun H1 s1 => ⟨(show (4 : Nat) ≤ sizeLine by decide), fun p np => ?_⟩⟩
    exact q _ p (s1.trans (sameNew np)) (SqT.of upd_same)
end
end Pv
namespace Pv
open PySem PySem.Spec PyProof.Rows L2
abbrev sFr : Stmt := topS 73
theorem scFr : FnScope ["_law_thing", "_law_low", "_law_high"] ["_law_thing", "_law_low", "_law_high"] (defScope sFr) := ⟨rfl, rfl, rfl, by decide +kernel, rfl, by decide +kernel, by decide +kernel⟩
abbrev sIL : Stmt := topS 81
theorem scIL : FnScope ["_law_instance_here", "_law_value", "_law_many", "_law_post"] ["_law_instance_here", "_law_value"] (defScope sIL) := ⟨rfl, rfl, rfl, by decide +kernel, rfl, by decide +kernel, by decide +kernel⟩
abbrev sD0 : Stmt := topS 82
theorem scD0 : FnScope ["_law_instance_here", "_law_edit", "_law_word", "_law_one", "_law_other", "_law_capacities", "_law_groups", "_law_posts", "_law_count", "_law_changed"] ["_law_instance_here", "_law_edit"] (defScope sD0) := ⟨rfl, rfl, rfl, by decide +kernel, rfl, by decide +kernel, by decide +kernel⟩
abbrev sD1 : Stmt := topS 83
theorem scD1 : FnScope ["_law_instance_here", "_law_edit", "_law_capacities", "_law_groups", "_law_fresh"] ["_law_instance_here", "_law_edit"] (defScope sD1) := ⟨rfl, rfl, rfl, by decide +kernel, rfl, by decide +kernel, by decide +kernel⟩
abbrev sD2 : Stmt := topS 84
theorem scD2 : FnScope ["_law_instance_here", "_law_edit", "_law_capacities", "_law_groups", "_law_spot", "_law_fresh", "_law_posts", "_law_count", "_law_post"] ["_law_instance_here", "_law_edit"] (defScope sD2) := ⟨rfl, rfl, rfl, by decide +kernel, rfl, by decide +kernel, by decide +kernel⟩
abbrev sDu : Stmt := topS 85
theorem scDu : FnScope ["_law_instance_here", "_law_edit"] ["_law_instance_here", "_law_edit"] (defScope sDu) := ⟨rfl, rfl, rfl, by decide +kernel, rfl, by decide +kernel, by decide +kernel⟩
theorem eqv_intsQ (as bs : List Int) : PyData.eqv (.list (as.map PyData.int)) (.list (bs.map PyData.int)) = decide (as = bs) := by
  have key : ∀ (as bs : List Int), PyData.eqvAll (as.map PyData.int) (bs.map PyData.int) = decide (as = bs) := by
    intro as
    induction as with
    | nil => intro bs; cases bs <;> simp [PyData.eqvAll]
    | cons a as ih =>
      intro bs
      cases bs with
      | nil => simp [PyData.eqvAll]
      | cons b bs =>
        simp only [List.map_cons, PyData.eqvAll, PyData.eqv, ih, List.cons.injEq]
        by_cases h1 : a = b <;> by_cases h2 : as = bs <;> simp [h1, h2]
  rw [PyData.eqv]; exact key as bs
theorem shaped_intsQ {as : List Int} : SeqAt.shaped (.list (as.map PyData.int)) = true := by
  have hd := dep_ints as
  have hc := lay_ints as
  show (PyData.canLay0 (.list (as.map PyData.int)) && decide (PyData.depth (.list (as.map PyData.int)) ≤ 64)) = true
  simp only [PyData.canLay0, PyData.depth, hd, hc]
  decide
theorem ne_t {a b : Str} (h : ¬ a = b) : (!decide (V.str a = V.str b)) = true := by rw [str_f h]; rfl
theorem ne_f (a : Str) : (!decide (V.str a = V.str a)) = false := by rw [str_t]; rfl
theorem ite_t {c : Bool} {A B : Prop} (hc : c = true) (h : A) : if c = true then A else B := by rw [if_pos hc]; exact h
def spIL (K : PySem.W.Frag) : Sp := fun vs H Q _ => ∃ (st r i : Addr) (v : V) (d : PyData) (cs : List Int) (gs : List Gp), vs = [.ref i, v] ∧ Dp K H (.ref i) (dInst cs gs) ∧ InsOk cs gs ∧ Dq K st r H v d ∧ Nw d ∧ ∀ H', Same H H' → Q (.bl (listD cs.length d)) H'
/-- the error that an edit meets, as the law tells it -/
def nmE : Nat → Str
  | 0 => "NoPost"
  | 1 => "NoGroup"
  | 2 => "BadNumber"
  | 3 => "BadList"
  | 4 => "TooMany"
  | _ => "LastOne"
def errV (cp : Nat × Nat) (v1 v2 : V) : List V := .str (nmE cp.1) :: if cp.2 = 0 then [] else [valP cp.2 v1 v2]
def spDueW (K : PySem.W.Frag) (W : Nat → Prop) : Sp := fun vs H Q _ => ∃ (st r i ed : Addr) (w : Nat) (v1 v2 : V) (cs : List Int) (gs : List Gp) (d1 d2 : PyData), vs = [.ref i, .ref ed] ∧ W w ∧ Dp K H (.ref i) (dInst cs gs) ∧ InsOk cs gs ∧ EdIn K H st r ed w v1 v2 d1 d2 ∧ Nw d1 ∧ Nw d2 ∧
  (∀ cp, edFail (cs, gs) w d1 d2 = some cp → ∀ H' p, Same H H' → SqT K H' p (errV cp v1 v2) → Q (.ref p) H') ∧
  (edFail (cs, gs) w d1 d2 = none → ∀ H' p i', Same H H' → SqT K H' p [.str "state", .ref i'] → Dp K H' (.ref i') (dI2 (edRes (cs, gs) w d1 d2)) → Q (.ref p) H')
abbrev spDue (K : PySem.W.Frag) : Sp := spDueW K fun w => w < 7
section
variable {P : Program} {w : World} {K : PySem.W.Frag} {mg : Str → Option Value} {base : Heap}
set_option maxHeartbeats 16000000 in
theorem ok_Fr {f : Addr} {fd : FuncData} (F : Fun K "_law_from" "_law_from" sFr f fd)
    (m_int : mg "int" = none) (m_isinstance : mg "isinstance" = none) (m_bool : mg "bool" = none) :
    FnOk P w K mg base CX0 1 f fd ["_law_thing", "_law_low", "_law_high"] (spInteg K) := by
  refine F.ok scFr (fun vs H Q E h => ?_) (fun cdv A outer s H vs Q E hr h => ?_)
  · obtain ⟨st, r, v, d, a, b, rfl, _⟩ := h; rfl
  · obtain ⟨st, r, v, d, a, b, rfl, hd, q⟩ := h
    refine ⟨_, pss_one (ps_ret (pe_and (pe_callB call_isi (by rfl) m_isinstance (by decide +kernel) (pa_cons (pv 0) (pa_cons (pe_bltn (v := .ty "int") (by rfl) m_int (by decide +kernel) rfl) pa_nil))) (pe_and (pe_not (pe_callB call_isi (by rfl) m_isinstance (by decide +kernel) (pa_cons (pv 0) (pa_cons (pe_bltn (v := .ty "bool") (by rfl) m_bool (by decide +kernel) rfl) pa_nil)))) (pe_one (pe_chain op_le op_le (pv 1) (pv 0) (pv 2)))))), ?_⟩
    refine ⟨v, rfl, v, .ty "int", _, _, _, rfl, .ty _, hd.ty, kit_int d, _, rfl, ite2 (fun h1 => ?_) (fun h1 => ?_)⟩
    · refine ⟨v, rfl, v, .ty "bool", _, _, _, rfl, .ty _, hd.ty, kit_bool d, _, rfl, _, rfl, ite2 (fun h2 => ?_) (fun h2 => ?_)⟩
      · cases d with
        | int i =>
          cases hd
          refine ⟨.int a, rfl, .int i, rfl, _, _, rfl, rfl, _, rfl, ite2 (fun h3 => ?_) (fun h3 => ?_)⟩
          · refine ⟨.int b, rfl, _, _, rfl, rfl, ?_⟩
            have h3' : a ≤ i := of_decide_eq_true h3
            simpa [withinD, h3'] using q
          · have h3' : ¬ a ≤ i := fun z => h3 (decide_eq_true z)
            simpa [withinD, h3'] using q
        | bool b => simp [isBool] at h2
        | _ => simp [isInt] at h1
      · cases d with
        | bool b => exact q
        | int i => simp [isBool] at h2
        | _ => simp [isInt] at h1
    · cases d with
      | int i => simp [isInt] at h1
      | bool b => simp [isInt] at h1
      | _ => exact q
set_option maxHeartbeats 16000000 in
theorem ok_IL {f fFr : Addr} {fd fdFr : FuncData} (F : Fun K "_law_is_list" "_law_is_list" sIL f fd)
    (FFr : Fun K "_law_from" "_law_from" sFr fFr fdFr) (bFr : Binds K fdFr ["_law_thing", "_law_low", "_law_high"] []) (gFr : mg "_law_from" = some (.ref fFr)) (GFr : FnOk P w K mg base CX0 1 fFr fdFr ["_law_thing", "_law_low", "_law_high"] (spInteg K))
    (m_tuple : mg "tuple" = none) (m_isinstance : mg "isinstance" = none) (m_len : mg "len" = none) (m_sorted : mg "sorted" = none) (m_set : mg "set" = none) :
    FnOk P w K mg base CX0 2 f fd ["_law_instance_here", "_law_value"] (spIL K) := by
  refine F.ok scIL (fun vs H Q E h => ?_) (fun cdv A outer s H vs Q E hr h => ?_)
  · obtain ⟨st, r, i, v, d, cs, gs, rfl, _⟩ := h; rfl
  · obtain ⟨st, r, i, v, d, cs, gs, rfl, hI, ok, hd, hn, q⟩ := h
    have hu64 : (A.deeper (envOfC "_law_is_list" (defScope sIL) s.heap.objs.size f cdv)).units + 64 < cLine := by have := hr.un; omega
    have hu0 : (A.deeper (envOfC "_law_is_list" (defScope sIL) s.heap.objs.size f cdv)).units < cLine := by have := hr.un; omega
    refine ⟨_, pss_cons (ps_if (pt_not (pt_val (pe_callB call_isi (by rfl) m_isinstance (by decide +kernel) (pa_cons (pv 1) (pa_cons (pe_bltn (v := .ty "tuple") (by rfl) m_tuple (by decide +kernel) rfl) pa_nil)))))
        (pss_one (ps_ret (pe_bl))) pss_nil)
      (pss_cons (ps_set (i := 2) scIL.nd rfl (.inr rfl) (pe_callB call_lenQ (by rfl) m_len PySem.boot_len (pa_cons (pe_ix ix_tup (pv 0) (pe_int) (fun _ _ => rfl)) pa_nil)))
      (pss_cons (ps_if (pt_cmpR (op_neNil hu0) (pe_lc (own := [("_law_post", 3)]) (g := gName 3) (tt := tNot (tB (tCall (spInteg K) [] E0 (tCons (tVar 3) (tCons (tC (.int 0)) (tCons (tOp (rI0 fun i j => .int (i - j)) (tVar 2) (tC (.int 1))) tNil)))))) (te := tVar 3) rfl scIL.nd (pi_tup (pv 1)) (blkOk_by (N := ["_law_instance_here", "_law_value", "_law_many", "_law_post"]) (sc := defScope sIL) (by decide +kernel)) (fun _ _ _ _ _ => pg_name (i := 3) scIL.nd rfl (.inl rfl)) (fun _ _ _ _ _ => pts_one (pt_not (pt_val (pe_call GFr (hr.mono (by omega)) (by rfl) gFr FFr.kp bFr .nil pass0 (pa_cons (pv 3) (pa_cons (pe_int) (pa_cons (pe_op op_sub (pv 2) (pe_int)) pa_nil))))))) (fun _ _ _ _ _ => pv 3)) (pe_lst (pa_nil)) (nomark _))
        (pss_one (ps_ret (pe_bl))) pss_nil)
      (pss_one (ps_ret (pe_cmpR (op_eqD hu64) (pe_callB cr_sortedT (by rfl) m_sorted (by decide +kernel) (pa_cons (pv 1) pa_nil)) (pe_callB (cr_sortedSet rfl) (by rfl) m_sorted (by decide +kernel) (pa_cons (pe_callTy (cr_setT rfl) (by rfl) m_set (by decide +kernel) (pa_cons (pv 1) pa_nil)) pa_nil)) (nomark _)))))), ?_⟩
    obtain ⟨_, ca, ga, xs0, e, hi, hc, hgt, hgs⟩ := inst_open hI
    cases e
    have lc : (cs.map V.int).length = cs.length := List.length_map ..
    refine ⟨v, rfl, v, .ty "tuple", _, _, _, rfl, .ty _, hd.ty, kit_tup d, _, rfl, ?_⟩
    cases d with
    | none => exact iteT (q _ (Same.refl _))
    | bool _ => exact iteT (q _ (Same.refl _))
    | int _ => exact iteT (q _ (Same.refl _))
    | str _ => exact iteT (q _ (Same.refl _))
    | list _ => exact iteT (q _ (Same.refl _))
    | dict _ => exact iteT (q _ (Same.refl _))
    | tuple ds =>
    cases hd with
    | @tup a xs _ hT ha =>
    have hl := DqAll.len ha
    have hlen : ds.length ≤ 50 := hn.ln _ rfl
    refine iteF ⟨.ref i, rfl, i, _, 0, .ref ca, rfl, rfl, hi, atI_nat (j := 0) rfl, ca, _, rfl, .inr hc, ?_⟩
    refine ⟨.ref a, rfl, a, rfl, ⟨_, hT⟩, fun D nD => lc_it (walk_tup (K := K) (a := a) (xs := xs))
      (fun i H2 => Same H H2 ∧ ∃ zs : List V, H2 D = some (.lst zs) ∧ zs.length ≤ i ∧ zs.isEmpty = (ds.take i).all (withinD 0 ((cs.length : Nat) - 1 : Int))) ⟨sameNew nD, [], upd_same, Nat.le_refl _, rfl⟩ (fun i H2 _ h2 => (TupK.of h2.1).sq hT) ?_ ?_⟩
    · rintro i x H2 H3 hi2 ⟨s2, zs, e2, hz, hem⟩ ⟨rfl, hx⟩
      obtain ⟨dx, hdx, hxd⟩ := DqAll.at ha hx
      have hil : i < ds.length := (List.getElem?_eq_some_iff.mp hdx).1
      have hsnoc : (ds.take (i + 1)).all (withinD 0 ((cs.length : Nat) - 1 : Int)) = ((ds.take i).all (withinD 0 ((cs.length : Nat) - 1 : Int)) && withinD 0 ((cs.length : Nat) - 1 : Int) dx) := by rw [take_snoc hdx, List.all_append]; simp
      refine ⟨rfl, x, rfl, _, rfl, _, _, rfl, rfl, st, r, x, dx, 0, ((cs.length : Nat) - 1 : Int), by rw [lc]; rfl, hxd.lasts (.of s2), _, rfl, ite2 (fun h3 => ?_) (fun h3 => ?_)⟩
      · refine ⟨x, rfl, _, e2, small (by omega), samePut s2 nD, zs ++ [x], upd_same, by simp; omega, ?_⟩
        have h4 : withinD 0 ((cs.length : Nat) - 1 : Int) dx = false := by simpa using h3
        rw [hsnoc, h4, Bool.and_false]; simp
      · have h4 : withinD 0 ((cs.length : Nat) - 1 : Int) dx = true := by simpa using h3
        refine ⟨s2, zs, e2, by omega, ?_⟩
        rw [hsnoc, h4, Bool.and_true]; exact hem
    · rintro H2 ⟨s2, zs, e2, hz, hem⟩
      rw [hl, List.take_length] at hem
      refine ⟨Nat.zero_le _, fun p np => ⟨D, p, zs, rfl, rfl, SqL.of (upNew np e2), SqL.of upd_same, _, rfl, ?_⟩⟩
      have s3 := s2.trans (sameNew (o := .lst []) np)
      rw [hem]
      cases hall : ds.all (withinD 0 ((cs.length : Nat) - 1 : Int)) with
      | false =>
        refine iteT ?_
        have := q _ s3
        rw [listD_out hall] at this
        exact this
      | true =>
        refine iteF ?_
        obtain ⟨row, er, hrow⟩ := within_ints hall
        subst er
        have hxs := DpAll.ints (DqAll.to_dp (to_ints row) ha)
        subst hxs
        rw [List.length_map] at hlen
        refine ⟨.ref a, rfl, a, row, rfl, (TupK.of s3).sq hT, by omega, fun ns' p1 hp hs n1 => ?_⟩
        have s4 := s3.trans (sameNew (o := .lst (ns'.map V.int)) n1)
        refine ⟨.ref a, rfl, a, row, rfl, (TupK.of s4).sq hT, by omega, fun p2 c n2 _ hc => ⟨p2, _, c, rfl, upd_same, by omega, fun ms p3 hm hmem hml n3 => ?_⟩⟩
        have e1 := upNew (o := .lst (ms.map V.int)) n3 (upNew (o := SetO w p2 (fun j => decide (j ∈ row)) c) n2 (upd_same (H := upd H2 p (.lst [])) (a := p1) (o := .lst (ns'.map V.int))))
        refine ⟨.list (ns'.map PyData.int), .list (ms.map PyData.int), .lst (SqL.of e1) (dp_ints ns'), .lst (SqL.of upd_same) (dp_ints ms), shaped_intsQ, shaped_intsQ, ?_⟩
        have e : listD ((cs.length : Nat) : Int) (.tuple (row.map PyData.int)) = PyData.eqv (.list (ns'.map PyData.int)) (.list (ms.map PyData.int)) := by
          rw [listD_ints, hrow, Bool.true_and, eqv_intsQ]
          have := sort_nodup hp hs hm (fun k => by rw [hmem k]; simp)
          exact decide_eq_decide.mpr this.symm
        have := q _ ((s4.trans (sameNew (o := SetO w p2 (fun j => decide (j ∈ row)) c) n2)).trans (sameNew (o := .lst (ms.map V.int)) n3))
        rw [e] at this
        exact this
set_option maxHeartbeats 16000000 in
theorem ok_D0 {f fFr fIL fLP : Addr} {fd fdFr fdIL fdLP : FuncData} (F : Fun K "_law_due_set" "_law_due_set" sD0 f fd)
    (FFr : Fun K "_law_from" "_law_from" sFr fFr fdFr) (bFr : Binds K fdFr ["_law_thing", "_law_low", "_law_high"] []) (gFr : mg "_law_from" = some (.ref fFr)) (GFr : FnOk P w K mg base CX0 1 fFr fdFr ["_law_thing", "_law_low", "_law_high"] (spInteg K))
    (FIL : Fun K "_law_is_list" "_law_is_list" sIL fIL fdIL) (bIL : Binds K fdIL ["_law_instance_here", "_law_value"] []) (gIL : mg "_law_is_list" = some (.ref fIL)) (GIL : FnOk P w K mg base CX0 2 fIL fdIL ["_law_instance_here", "_law_value"] (spIL K))
    (FLP : Fun K "_law_put" "_law_put" sLP fLP fdLP) (bLP : Binds K fdLP ["_law_items", "_law_spot", "_law_item"] []) (gLP : mg "_law_put" = some (.ref fLP)) (GLP : FnOk P w K mg base CX0 1 fLP fdLP ["_law_items", "_law_spot", "_law_item"] (spWI K))
    (m_len : mg "len" = none) (m_int : mg "int" = none) :
    FnOk P w K mg base CX0 3 f fd ["_law_instance_here", "_law_edit"] (spDueW K fun w => w < 3) := by
  refine F.ok scD0 (fun vs H Q E h => ?_) (fun cdv A outer s H vs Q E hr h => ?_)
  · obtain ⟨st, r, i, ed, w, v1, v2, cs, gs, d1, d2, rfl, _⟩ := h; rfl
  · obtain ⟨st, r, i, ed, w, v1, v2, cs, gs, d1, d2, rfl, hw, hI, ok, hE, nw1, nw2, qe, qs⟩ := h
    refine ⟨_, pss_cons (ps_asg (pv 1) (pg_tup rfl (pgs_cons (pg_name (i := 2) scD0.nd rfl (.inl rfl)) (pgs_cons (pg_name (i := 3) scD0.nd rfl (.inl rfl)) (pgs_cons (pg_name (i := 4) scD0.nd rfl (.inl rfl)) pgs_nil)))))
      (pss_cons (ps_asg (pv 0) (pg_tup rfl (pgs_cons (pg_name (i := 5) scD0.nd rfl (.inl rfl)) (pgs_cons (pg_name (i := 6) scD0.nd rfl (.inl rfl)) pgs_nil))))
      (pss_cons (ps_if (PW.pt (pw_and (pt_cmpR op_eq (pv 2) (pe_str) (nomark _)) (pw_and1 (pt_not (pt_val (pe_call GFr (hr.mono (by omega)) (by rfl) gFr FFr.kp bFr .nil pass0 (pa_cons (pv 3) (pa_cons (pe_int) (pa_cons (pe_op op_sub (pe_callB call_lenQ (by rfl) m_len PySem.boot_len (pa_cons (pv 5) pa_nil)) (pe_int)) pa_nil)))))))))
        (pss_one (ps_ret (pe_tup (pa_cons (pe_str) (pa_cons (pv 3) pa_nil))))) pss_nil)
      (pss_cons (ps_if (PW.pt (pw_and (pt_cmpR op_ne (pv 2) (pe_str) (nomark _)) (pw_and1 (pt_not (pt_val (pe_call GFr (hr.mono (by omega)) (by rfl) gFr FFr.kp bFr .nil pass0 (pa_cons (pv 3) (pa_cons (pe_int) (pa_cons (pe_op op_sub (pe_callB call_lenQ (by rfl) m_len PySem.boot_len (pa_cons (pv 6) pa_nil)) (pe_int)) pa_nil)))))))))
        (pss_one (ps_ret (pe_tup (pa_cons (pe_str) (pa_cons (pv 3) pa_nil))))) pss_nil)
      (pss_cons (ps_if (PW.pt (pw_and (pt_cmpR op_eq (pv 2) (pe_str) (nomark _)) (pw_and1 (pt_not (pt_val (pe_call GIL (hr.mono (by omega)) (by rfl) gIL FIL.kp bIL .nil pass0 (pa_cons (pv 0) (pa_cons (pv 4) pa_nil))))))))
        (pss_one (ps_ret (pe_tup (pa_cons (pe_str) (pa_cons (pv 4) pa_nil))))) pss_nil)
      (pss_cons (ps_if (PW.pt (pw_and (pt_cmpR op_ne (pv 2) (pe_str) (nomark _)) (pw_and1 (pt_not (pt_val (pe_call GFr (hr.mono (by omega)) (by rfl) gFr FFr.kp bFr .nil pass0 (pa_cons (pv 4) (pa_cons (pe_int) (pa_cons (pe_op op_pow (pe_int) (pe_int)) pa_nil)))))))))
        (pss_one (ps_ret (pe_tup (pa_cons (pe_str) (pa_cons (pv 4) pa_nil))))) pss_nil)
      (pss_cons (ps_if (pt_cmpR op_eq (pv 2) (pe_str) (nomark _))
        (pss_one (ps_ret (pe_tup (pa_cons (pe_str) (pa_cons (pe_tup (pa_cons (pe_call GLP (hr.mono (by omega)) (by rfl) gLP FLP.kp bLP .nil pass0 (pa_cons (pv 5) (pa_cons (pv 3) (pa_cons (pv 4) pa_nil)))) (pa_cons (pv 6) pa_nil))) pa_nil))))) pss_nil)
      (pss_cons (ps_asg (pe_ix ix_tup (pv 6) (pv 3) (fun _ _ => rfl)) (pg_tup rfl (pgs_cons (pg_name (i := 7) scD0.nd rfl (.inl rfl)) (pgs_cons (pg_name (i := 8) scD0.nd rfl (.inl rfl)) pgs_nil))))
      (pss_cons (ps_set (i := 9) scD0.nd rfl (.inl rfl) (pe_ix ix_list (pe_lst (pa_cons (pe_tup (pa_cons (pv 7) (pa_cons (pv 4) pa_nil))) (pa_cons (pe_tup (pa_cons (pv 4) (pa_cons (pv 8) pa_nil))) pa_nil))) (pe_callTy call_int1 (by rfl) m_int (by decide +kernel) (pa_cons (pe_cmpR op_eq (pv 2) (pe_str) (nomark _)) pa_nil)) (fun _ _ => rfl)))
      (pss_one (ps_ret (pe_tup (pa_cons (pe_str) (pa_cons (pe_tup (pa_cons (pv 5) (pa_cons (pe_call GLP (hr.mono (by omega)) (by rfl) gLP FLP.kp bLP .nil pass0 (pa_cons (pv 6) (pa_cons (pv 3) (pa_cons (pv 9) pa_nil)))) pa_nil))) pa_nil))))))))))))), ?_⟩
    obtain ⟨_, ca, ga, xs, e, hi, hc, hgt, hgs⟩ := inst_open hI
    cases e
    have lx := DpAll.len hgs
    rw [List.length_map] at lx
    have lc : (cs.map V.int).length = cs.length := List.length_map ..
    have h6 := ok.c6
    have h10 := ok.g10
    have h1 := hE.h1
    have h2 := hE.h2
    have hsq := hE.sq
    have h3 : w = 0 ∨ w = 1 ∨ w = 2 := by omega
    rcases h3 with rfl | rfl | rfl
    · have h2 := h2 (by decide)
      have hsq : SqT K H ed [.str "set_capacity", v1, v2] := hsq
      have ef : edFail (cs, gs) 0 d1 d2 = (if ok1 0 cs gs d1 = false then some (0, 1) else if ok2 0 cs d2 = false then some (2, 2) else none) := rfl
      refine ⟨.ref ed, rfl, ed, _, rfl, hsq, rfl, _, _, rfl, _, _, rfl, _, _, rfl, rfl, ?_⟩
      refine ⟨.ref i, rfl, i, _, rfl, hi, rfl, _, _, rfl, _, _, rfl, rfl, ?_⟩
      refine ⟨_, rfl, rfl, _, rfl, iteT ⟨v1, rfl, .ref ca, rfl, ca, _, rfl, .inr hc, _, _, rfl, rfl, st, r, v1, d1, 0, bnd 0 cs gs, by rw [lc]; rfl, h1, ?_⟩⟩
      cases hb : withinD 0 (bnd 0 cs gs) d1 with
      | false =>
        exact ⟨_, rfl, iteT ⟨v1, rfl, (show (2 : Nat) ≤ sizeLine by decide), fun p np => qe (0, 1) (by rw [ef]; exact if_pos hb) _ p (sameNew np) (SqT.of upd_same)⟩⟩
      | true =>
        have ef2 : edFail (cs, gs) 0 d1 d2 = if ok2 0 cs d2 = false then some (2, 2) else none := by rw [ef]; exact if_neg (fun z : ok1 0 cs gs d1 = false => by have hb : ok1 0 cs gs d1 = true := hb; rw [hb] at z; cases z)
        refine ⟨_, rfl, iteF ?_⟩
        obtain ⟨a, rfl, a0, a1⟩ := within_int hb
        obtain ⟨n, rfl⟩ : ∃ n : Nat, a = n := ⟨a.toNat, by omega⟩
        cases h1
        have ha1 : ((n : Nat) : Int) ≤ (cs.length : Nat) - 1 := a1
        refine ⟨_, rfl, rfl, _, rfl, ite_f (ne_f _) (iteF ?_)⟩
        refine ⟨_, rfl, rfl, _, rfl, ite_f (str_f (by decide +kernel)) (iteF ?_)⟩
        refine ⟨_, rfl, rfl, _, rfl, ite_t (ne_t (by decide +kernel)) ⟨v2, rfl, _, _, rfl, rfl, ⟨by decide, by decide, by decide⟩, st, r, v2, d2, 1, 10 ^ 12, rfl, h2, ?_⟩⟩
        cases hb2 : withinD 1 (10 ^ 12) d2 with
        | false =>
          exact ⟨_, rfl, iteT ⟨v2, rfl, (show (2 : Nat) ≤ sizeLine by decide), fun p np => qe (2, 2) (by rw [ef2]; exact if_pos hb2) _ p (sameNew np) (SqT.of upd_same)⟩⟩
        | true =>
          refine ⟨_, rfl, iteF ?_⟩
          have ef3 : edFail (cs, gs) 0 (.int (n : Nat)) d2 = none := by rw [ef2]; exact if_neg (fun z : ok2 0 cs d2 = false => by have hb2 : ok2 0 cs d2 = true := hb2; rw [hb2] at z; cases z)
          obtain ⟨b, rfl, b0, b1⟩ := within_int hb2
          cases h2
          refine ⟨_, rfl, rfl, _, rfl, iteT ?_⟩
          refine ⟨.ref ca, rfl, .int (n : Nat), rfl, .int b, rfl, ca, _, n, .int b, rfl, hc, by rw [lc]; omega, by rw [lc]; omega, fun H1 c1 s1 hc1 => ⟨.ref ga, rfl, (show (2 : Nat) ≤ sizeLine by decide), fun I nI => ⟨(show (2 : Nat) ≤ sizeLine by decide), fun p np => ?_⟩⟩⟩
          have sI := sameNew (o := .tup [.ref c1, .ref ga]) nI
          have sp := sameNew (o := .tup [V.str "state", .ref I]) np
          have dc : Dp K H1 (.ref c1) (dI (cs.set n b)) := by
            rw [show (cs.map V.int).set n (.int b) = (cs.set n b).map V.int from (List.map_set ..).symm] at hc1
            exact .tup hc1 (dp_ints _)
          have dg : Dp K H1 (.ref ga) (.tuple (gs.map dGrp)) := .tup ((TupK.of s1).sq hgt) ((TupK.of s1).dpAll _ _ (to_grps gs) hgs)
          have er : edRes (cs, gs) 0 (.int (n : Nat)) (.int b) = (cs.set n b, gs) := by show (cs.set (n : Int).toNat b, gs) = _; rw [Int.toNat_natCast]
          refine qs ef3 _ p I ((s1.trans sI).trans sp) (SqT.of upd_same) ?_
          rw [er]
          exact (TupK.of sp).dp _ _ (to_dInst _ _) (.tup (SqT.of upd_same) (.cons ((TupK.of sI).dp _ _ (to_dI _) dc) (.cons ((TupK.of sI).dp _ _ (show tupOnly (.tuple (gs.map dGrp)) = true from to_grps gs) dg) .nil)))
    · have h2 := h2 (by decide)
      have hsq : SqT K H ed [.str "set_count", v1, v2] := hsq
      have ef : edFail (cs, gs) 1 d1 d2 = (if ok1 1 cs gs d1 = false then some (1, 1) else if ok2 1 cs d2 = false then some (2, 2) else none) := rfl
      refine ⟨.ref ed, rfl, ed, _, rfl, hsq, rfl, _, _, rfl, _, _, rfl, _, _, rfl, rfl, ?_⟩
      refine ⟨.ref i, rfl, i, _, rfl, hi, rfl, _, _, rfl, _, _, rfl, rfl, ?_⟩
      refine ⟨_, rfl, rfl, _, rfl, ite_f (str_f (by decide +kernel)) (iteF ?_)⟩
      refine ⟨_, rfl, rfl, _, rfl, ite_t (ne_t (by decide +kernel)) ⟨v1, rfl, .ref ga, rfl, ga, _, rfl, .inr hgt, _, _, rfl, rfl, st, r, v1, d1, 0, bnd 1 cs gs, by rw [lx]; rfl, h1, ?_⟩⟩
      cases hb : withinD 0 (bnd 1 cs gs) d1 with
      | false =>
        exact ⟨_, rfl, iteT ⟨v1, rfl, (show (2 : Nat) ≤ sizeLine by decide), fun p np => qe (1, 1) (by rw [ef]; exact if_pos hb) _ p (sameNew np) (SqT.of upd_same)⟩⟩
      | true =>
        have ef2 : edFail (cs, gs) 1 d1 d2 = if ok2 1 cs d2 = false then some (2, 2) else none := by rw [ef]; exact if_neg (fun z : ok1 1 cs gs d1 = false => by have hb : ok1 1 cs gs d1 = true := hb; rw [hb] at z; cases z)
        refine ⟨_, rfl, iteF ?_⟩
        obtain ⟨a, rfl, a0, a1⟩ := within_int hb
        obtain ⟨n, rfl⟩ : ∃ n : Nat, a = n := ⟨a.toNat, by omega⟩
        cases h1
        have ha1 : ((n : Nat) : Int) ≤ (gs.length : Nat) - 1 := a1
        refine ⟨_, rfl, rfl, _, rfl, ite_f (str_f (by decide +kernel)) (iteF ?_)⟩
        refine ⟨_, rfl, rfl, _, rfl, ite_t (ne_t (by decide +kernel)) ⟨v2, rfl, _, _, rfl, rfl, ⟨by decide, by decide, by decide⟩, st, r, v2, d2, 1, 10 ^ 12, rfl, h2, ?_⟩⟩
        cases hb2 : withinD 1 (10 ^ 12) d2 with
        | false =>
          exact ⟨_, rfl, iteT ⟨v2, rfl, (show (2 : Nat) ≤ sizeLine by decide), fun p np => qe (2, 2) (by rw [ef2]; exact if_pos hb2) _ p (sameNew np) (SqT.of upd_same)⟩⟩
        | true =>
          refine ⟨_, rfl, iteF ?_⟩
          have ef3 : edFail (cs, gs) 1 (.int (n : Nat)) d2 = none := by rw [ef2]; exact if_neg (fun z : ok2 1 cs d2 = false => by have hb2 : ok2 1 cs d2 = true := hb2; rw [hb2] at z; cases z)
          obtain ⟨b, rfl, b0, b1⟩ := within_int hb2
          cases h2
          have s1 := Same.refl H
          refine ⟨_, rfl, rfl, _, rfl, ite_f (str_f (by decide +kernel)) ?_⟩
          have tk1 := TupK.of s1
          have hg := List.getElem?_eq_getElem (l := gs) (i := n) (by omega)
          obtain ⟨gA, pA, hx, hG, hP⟩ := grp_at hgs hg
          have hgat : gat gs n = gs[n]'(by omega) := by unfold gat; rw [List.getD_eq_getElem?_getD, hg]; rfl
          have hxa : xs[n]? = some (.ref gA) := hx
          refine ⟨.ref ga, rfl, .int (n : Nat), rfl, ga, _, _, .ref gA, rfl, rfl, tk1.sq hgt, atI_nat hxa, gA, _, rfl, tk1.sq hG, rfl, _, _, rfl, _, _, rfl, rfl, ?_⟩
          refine ⟨.ref pA, rfl, .int b, rfl, (show (2 : Nat) ≤ sizeLine by decide), fun T1 n1 => ⟨.int b, rfl, _, rfl, (show (2 : Nat) ≤ sizeLine by decide), fun T2 n2 => ⟨(show (2 : Nat) ≤ sizeLine by decide), fun L nL => ⟨_, rfl, rfl, .inr ⟨_, rfl, ?_⟩⟩⟩⟩⟩
          have sT1 := sameNew (o := .tup [V.ref pA, .int b]) n1
          have sT2 := sameNew (o := .tup [.int b, V.int (gs[n]'(by omega)).2]) n2
          have sL := sameNew (o := .lst [V.ref T1, V.ref T2]) nL
          have hb : decide (V.str "set_count" = V.str "set_list") = false := str_f (by decide +kernel)
          refine ⟨L, _, 0, .ref T1, rfl, by first | rfl | (rw [hb]; rfl) | (simp only [hb]; rfl), SqL.of upd_same, rfl, ?_⟩
          have s2 := sT1.trans (sT2.trans sL)
          have s12 := s1.trans s2
          have tk2 := TupK.of s12
          refine ⟨.ref ca, rfl, .ref ga, rfl, .int (n : Nat), rfl, .ref T1, rfl, ga, xs, n, .ref T1, rfl, tk2.sq hgt, by omega, by omega, fun H3 g3 s3 hg3 => ⟨(show (2 : Nat) ≤ sizeLine by decide), fun I nI => ⟨(show (2 : Nat) ≤ sizeLine by decide), fun p np => ?_⟩⟩⟩
          have sI := sameNew (o := .tup [.ref ca, .ref g3]) nI
          have sp := sameNew (o := .tup [V.str "state", .ref I]) np
          have s13 := s12.trans s3
          have dT : Dp K H3 (.ref T1) (dGrp ((gat gs n).1, b)) := by
            rw [hgat]
            exact .tup ((TupK.of ((sT2.trans sL).trans s3)).sq (SqT.of upd_same)) (.cons (.tup ((TupK.of s13).sq hP) (dp_ints _)) (.cons (.int _) .nil))
          have er : edRes (cs, gs) 1 (.int (n : Nat)) (.int b) = (cs, gs.set n ((gat gs n).1, b)) := by show (cs, gs.set (n : Int).toNat ((gat gs (n : Int).toNat).1, b)) = _; rw [Int.toNat_natCast]
          have dg : Dp K H3 (.ref g3) (.tuple ((gs.set n ((gat gs n).1, b)).map dGrp)) := by
            rw [List.map_set]
            exact .tup hg3 (DpAll.set n ((TupK.of s13).dpAll _ _ (to_grps gs) hgs) dT)
          have dc : Dp K H3 (.ref ca) (dI cs) := .tup ((TupK.of s13).sq hc) (dp_ints _)
          refine qs ef3 _ p I ((s13.trans sI).trans sp) (SqT.of upd_same) ?_
          rw [er]
          exact (TupK.of sp).dp _ _ (to_dInst _ _) (.tup (SqT.of upd_same) (.cons ((TupK.of sI).dp _ _ (to_dI _) dc) (.cons ((TupK.of sI).dp _ _ (show tupOnly (.tuple ((gs.set n ((gat gs n).1, b)).map dGrp)) = true from to_grps _) dg) .nil)))
    · have h2 := h2 (by decide)
      have hsq : SqT K H ed [.str "set_list", v1, v2] := hsq
      have ef : edFail (cs, gs) 2 d1 d2 = (if ok1 2 cs gs d1 = false then some (1, 1) else if ok2 2 cs d2 = false then some (3, 2) else none) := rfl
      refine ⟨.ref ed, rfl, ed, _, rfl, hsq, rfl, _, _, rfl, _, _, rfl, _, _, rfl, rfl, ?_⟩
      refine ⟨.ref i, rfl, i, _, rfl, hi, rfl, _, _, rfl, _, _, rfl, rfl, ?_⟩
      refine ⟨_, rfl, rfl, _, rfl, ite_f (str_f (by decide +kernel)) (iteF ?_)⟩
      refine ⟨_, rfl, rfl, _, rfl, ite_t (ne_t (by decide +kernel)) ⟨v1, rfl, .ref ga, rfl, ga, _, rfl, .inr hgt, _, _, rfl, rfl, st, r, v1, d1, 0, bnd 2 cs gs, by rw [lx]; rfl, h1, ?_⟩⟩
      cases hb : withinD 0 (bnd 2 cs gs) d1 with
      | false =>
        exact ⟨_, rfl, iteT ⟨v1, rfl, (show (2 : Nat) ≤ sizeLine by decide), fun p np => qe (1, 1) (by rw [ef]; exact if_pos hb) _ p (sameNew np) (SqT.of upd_same)⟩⟩
      | true =>
        have ef2 : edFail (cs, gs) 2 d1 d2 = if ok2 2 cs d2 = false then some (3, 2) else none := by rw [ef]; exact if_neg (fun z : ok1 2 cs gs d1 = false => by have hb : ok1 2 cs gs d1 = true := hb; rw [hb] at z; cases z)
        refine ⟨_, rfl, iteF ?_⟩
        obtain ⟨a, rfl, a0, a1⟩ := within_int hb
        obtain ⟨n, rfl⟩ : ∃ n : Nat, a = n := ⟨a.toNat, by omega⟩
        cases h1
        have ha1 : ((n : Nat) : Int) ≤ (gs.length : Nat) - 1 := a1
        refine ⟨_, rfl, rfl, _, rfl, iteT ⟨.ref i, rfl, v2, rfl, st, r, i, v2, d2, cs, gs, rfl, hI, ok, h2, nw2, fun H1 s1 => ?_⟩⟩
        cases hb2 : listD cs.length d2 with
        | false =>
          exact ⟨_, rfl, iteT ⟨v2, rfl, (show (2 : Nat) ≤ sizeLine by decide), fun p np => qe (3, 2) (by rw [ef2]; exact if_pos hb2) _ p (s1.trans (sameNew np)) (SqT.of upd_same)⟩⟩
        | true =>
          refine ⟨_, rfl, iteF ?_⟩
          have ef3 : edFail (cs, gs) 2 (.int (n : Nat)) d2 = none := by rw [ef2]; exact if_neg (fun z : ok2 2 cs d2 = false => by have hb2 : ok2 2 cs d2 = true := hb2; rw [hb2] at z; cases z)
          obtain ⟨row, er, el⟩ := list_ints hb2
          have h2 := h2.lasts (Lasts.of s1)
          have d2p : Dp K H1 v2 d2 := Dq.to_dp (to_listD hb2) h2
          refine ⟨_, rfl, rfl, _, rfl, ite_f (ne_f _) (iteF ?_)⟩
          refine ⟨_, rfl, rfl, _, rfl, ite_f (str_f (by decide +kernel)) ?_⟩
          have tk1 := TupK.of s1
          have hg := List.getElem?_eq_getElem (l := gs) (i := n) (by omega)
          obtain ⟨gA, pA, hx, hG, hP⟩ := grp_at hgs hg
          have hgat : gat gs n = gs[n]'(by omega) := by unfold gat; rw [List.getD_eq_getElem?_getD, hg]; rfl
          have hxa : xs[n]? = some (.ref gA) := hx
          refine ⟨.ref ga, rfl, .int (n : Nat), rfl, ga, _, _, .ref gA, rfl, rfl, tk1.sq hgt, atI_nat hxa, gA, _, rfl, tk1.sq hG, rfl, _, _, rfl, _, _, rfl, rfl, ?_⟩
          refine ⟨.ref pA, rfl, v2, rfl, (show (2 : Nat) ≤ sizeLine by decide), fun T1 n1 => ⟨v2, rfl, _, rfl, (show (2 : Nat) ≤ sizeLine by decide), fun T2 n2 => ⟨(show (2 : Nat) ≤ sizeLine by decide), fun L nL => ⟨_, rfl, rfl, .inr ⟨_, rfl, ?_⟩⟩⟩⟩⟩
          have sT1 := sameNew (o := .tup [V.ref pA, v2]) n1
          have sT2 := sameNew (o := .tup [v2, V.int (gs[n]'(by omega)).2]) n2
          have sL := sameNew (o := .lst [V.ref T1, V.ref T2]) nL
          have hb : decide (V.str "set_list" = V.str "set_list") = true := str_t _
          refine ⟨L, _, 1, .ref T2, rfl, by first | rfl | (rw [hb]; rfl) | (simp only [hb]; rfl), SqL.of upd_same, rfl, ?_⟩
          have s2 := sT1.trans (sT2.trans sL)
          have s12 := s1.trans s2
          have tk2 := TupK.of s12
          refine ⟨.ref ca, rfl, .ref ga, rfl, .int (n : Nat), rfl, .ref T2, rfl, ga, xs, n, .ref T2, rfl, tk2.sq hgt, by omega, by omega, fun H3 g3 s3 hg3 => ⟨(show (2 : Nat) ≤ sizeLine by decide), fun I nI => ⟨(show (2 : Nat) ≤ sizeLine by decide), fun p np => ?_⟩⟩⟩
          have sI := sameNew (o := .tup [.ref ca, .ref g3]) nI
          have sp := sameNew (o := .tup [V.str "state", .ref I]) np
          have s13 := s12.trans s3
          have dT : Dp K H3 (.ref T2) (dGrp (lstD d2, (gat gs n).2)) := by
            rw [hgat]
            have d2q := (TupK.of (s2.trans s3)).dp _ _ (to_listD hb2) d2p
            have : d2 = dI (lstD d2) := by rw [el]; exact er
            rw [this] at d2q
            exact .tup ((TupK.of (sL.trans s3)).sq (SqT.of upd_same)) (.cons d2q (.cons (.int _) .nil))
          have er2 : edRes (cs, gs) 2 (.int (n : Nat)) d2 = (cs, gs.set n (lstD d2, (gat gs n).2)) := by show (cs, gs.set (n : Int).toNat (lstD d2, (gat gs (n : Int).toNat).2)) = _; rw [Int.toNat_natCast]
          have er := er2
          have dg : Dp K H3 (.ref g3) (.tuple ((gs.set n (lstD d2, (gat gs n).2)).map dGrp)) := by
            rw [List.map_set]
            exact .tup hg3 (DpAll.set n ((TupK.of s13).dpAll _ _ (to_grps gs) hgs) dT)
          have dc : Dp K H3 (.ref ca) (dI cs) := .tup ((TupK.of s13).sq hc) (dp_ints _)
          refine qs ef3 _ p I ((s13.trans sI).trans sp) (SqT.of upd_same) ?_
          rw [er]
          exact (TupK.of sp).dp _ _ (to_dInst _ _) (.tup (SqT.of upd_same) (.cons ((TupK.of sI).dp _ _ (to_dI _) dc) (.cons ((TupK.of sI).dp _ _ (show tupOnly (.tuple ((gs.set n (lstD d2, (gat gs n).2)).map dGrp)) = true from to_grps _) dg) .nil)))
set_option maxHeartbeats 16000000 in
theorem ok_D1 {f fFr fIL : Addr} {fd fdFr fdIL : FuncData} (F : Fun K "_law_due_add" "_law_due_add" sD1 f fd)
    (FFr : Fun K "_law_from" "_law_from" sFr fFr fdFr) (bFr : Binds K fdFr ["_law_thing", "_law_low", "_law_high"] []) (gFr : mg "_law_from" = some (.ref fFr)) (GFr : FnOk P w K mg base CX0 1 fFr fdFr ["_law_thing", "_law_low", "_law_high"] (spInteg K))
    (FIL : Fun K "_law_is_list" "_law_is_list" sIL fIL fdIL) (bIL : Binds K fdIL ["_law_instance_here", "_law_value"] []) (gIL : mg "_law_is_list" = some (.ref fIL)) (GIL : FnOk P w K mg base CX0 2 fIL fdIL ["_law_instance_here", "_law_value"] (spIL K))
    (m_len : mg "len" = none) (m_int : mg "int" = none) :
    FnOk P w K mg base CX0 3 f fd ["_law_instance_here", "_law_edit"] (spDueW K fun w => w = 3 ∨ w = 5) := by
  refine F.ok scD1 (fun vs H Q E h => ?_) (fun cdv A outer s H vs Q E hr h => ?_)
  · obtain ⟨st, r, i, ed, w, v1, v2, cs, gs, d1, d2, rfl, _⟩ := h; rfl
  · obtain ⟨st, r, i, ed, w, v1, v2, cs, gs, d1, d2, rfl, hw, hI, ok, hE, nw1, nw2, qe, qs⟩ := h
    refine ⟨_, pss_cons (ps_asg (pv 0) (pg_tup rfl (pgs_cons (pg_name (i := 2) scD1.nd rfl (.inl rfl)) (pgs_cons (pg_name (i := 3) scD1.nd rfl (.inl rfl)) pgs_nil))))
      (pss_cons (ps_if (pt_cmpR op_eq (pe_ix ix_tup (pv 1) (pe_int) (fun _ _ => rfl)) (pe_str) (nomark _))
        (pss_cons (ps_if (pt_not (pt_val (pe_call GFr (hr.mono (by omega)) (by rfl) gFr FFr.kp bFr .nil pass0 (pa_cons (pe_ix ix_tup (pv 1) (pe_int) (fun _ _ => rfl)) (pa_cons (pe_int) (pa_cons (pe_op op_pow (pe_int) (pe_int)) pa_nil))))))
          (pss_one (ps_ret (pe_tup (pa_cons (pe_str) (pa_cons (pe_ix ix_tup (pv 1) (pe_int) (fun _ _ => rfl)) pa_nil))))) pss_nil)
        (pss_cons (ps_set (i := 4) scD1.nd rfl (.inl rfl) (pe_tup (pa_cons (pe_str) (pa_cons (pe_tup (pa_cons (pe_op op_catA (pv 2) (pe_tup (pa_cons (pe_ix ix_tup (pv 1) (pe_int) (fun _ _ => rfl)) pa_nil))) (pa_cons (pv 3) pa_nil))) pa_nil))))
        (pss_one (ps_ret (pe_ix ix_list (pe_lst (pa_cons (pv 4) (pa_cons (pe_tup (pa_cons (pe_str) (pa_cons (pe_int) pa_nil))) pa_nil))) (pe_callTy call_int1 (by rfl) m_int (by decide +kernel) (pa_cons (pe_cmpR op_gt (pe_callB call_lenQ (by rfl) m_len PySem.boot_len (pa_cons (pv 2) pa_nil)) (pe_int) (nomark _)) pa_nil)) (fun _ _ => rfl)))))) pss_nil)
      (pss_cons (ps_if (pt_not (pt_val (pe_call GIL (hr.mono (by omega)) (by rfl) gIL FIL.kp bIL .nil pass0 (pa_cons (pv 0) (pa_cons (pe_ix ix_tup (pv 1) (pe_int) (fun _ _ => rfl)) pa_nil)))))
        (pss_one (ps_ret (pe_tup (pa_cons (pe_str) (pa_cons (pe_ix ix_tup (pv 1) (pe_int) (fun _ _ => rfl)) pa_nil))))) pss_nil)
      (pss_cons (ps_if (pt_not (pt_val (pe_call GFr (hr.mono (by omega)) (by rfl) gFr FFr.kp bFr .nil pass0 (pa_cons (pe_ix ix_tup (pv 1) (pe_int) (fun _ _ => rfl)) (pa_cons (pe_int) (pa_cons (pe_op op_pow (pe_int) (pe_int)) pa_nil))))))
        (pss_one (ps_ret (pe_tup (pa_cons (pe_str) (pa_cons (pe_ix ix_tup (pv 1) (pe_int) (fun _ _ => rfl)) pa_nil))))) pss_nil)
      (pss_cons (ps_set (i := 4) scD1.nd rfl (.inl rfl) (pe_tup (pa_cons (pe_str) (pa_cons (pe_tup (pa_cons (pv 2) (pa_cons (pe_op op_catA (pv 3) (pe_tup (pa_cons (pe_tup (pa_cons (pe_ix ix_tup (pv 1) (pe_int) (fun _ _ => rfl)) (pa_cons (pe_ix ix_tup (pv 1) (pe_int) (fun _ _ => rfl)) pa_nil))) pa_nil))) pa_nil))) pa_nil))))
      (pss_one (ps_ret (pe_ix ix_list (pe_lst (pa_cons (pv 4) (pa_cons (pe_tup (pa_cons (pe_str) (pa_cons (pe_int) pa_nil))) pa_nil))) (pe_callTy call_int1 (by rfl) m_int (by decide +kernel) (pa_cons (pe_cmpR op_gt (pe_callB call_lenQ (by rfl) m_len PySem.boot_len (pa_cons (pv 3) pa_nil)) (pe_int) (nomark _)) pa_nil)) (fun _ _ => rfl)))))))), ?_⟩
    obtain ⟨_, ca, ga, xs, e, hi, hc, hgt, hgs⟩ := inst_open hI
    cases e
    have lx := DpAll.len hgs
    rw [List.length_map] at lx
    have lc : (cs.map V.int).length = cs.length := List.length_map ..
    have h6 := ok.c6
    have h10 := ok.g10
    have h1 := hE.h1
    have h2 := hE.h2
    have hsq := hE.sq
    refine ⟨.ref i, rfl, i, _, rfl, hi, rfl, _, _, rfl, _, _, rfl, rfl, ?_⟩
    rcases hw with rfl | rfl
    · have h2 := h2 (by decide)
      have hsq : SqT K H ed [.str "add_group", v1, v2] := hsq
      have ef : edFail (cs, gs) 3 d1 d2 = (if listD cs.length d1 = false then some (3, 1) else if withinD 1 (10 ^ 12) d2 = false then some (2, 2) else if 10 ≤ gs.length then some (4, 4) else none) := rfl
      refine ⟨.ref ed, rfl, ed, _, 0, .str "add_group", rfl, rfl, hsq, atI_nat (j := 0) rfl, rfl, _, rfl, ite_f (str_f (by decide +kernel)) ?_⟩
      refine ⟨.ref i, rfl, .ref ed, rfl, ed, _, 1, v1, rfl, rfl, hsq, atI_nat (j := 1) rfl, st, r, i, v1, d1, cs, gs, rfl, hI, ok, h1, nw1, fun H1 s1 => ?_⟩
      have hsq1 := (TupK.of s1).sq hsq
      cases hb : listD cs.length d1 with
      | false =>
        exact ⟨_, rfl, iteT ⟨.ref ed, rfl, ed, _, 1, v1, rfl, rfl, hsq1, atI_nat (j := 1) rfl, (show (2 : Nat) ≤ sizeLine by decide), fun p np => qe (3, 1) (by rw [ef]; exact if_pos hb) _ p (s1.trans (sameNew np)) (SqT.of upd_same)⟩⟩
      | true =>
        have ef2 : edFail (cs, gs) 3 d1 d2 = (if withinD 1 (10 ^ 12) d2 = false then some (2, 2) else if 10 ≤ gs.length then some (4, 4) else none) := by rw [ef]; exact if_neg (by rw [hb]; decide)
        refine ⟨_, rfl, iteF ?_⟩
        refine ⟨.ref ed, rfl, ed, _, 2, v2, rfl, rfl, hsq1, atI_nat (j := 2) rfl, _, _, rfl, rfl, ⟨by decide, by decide, by decide⟩, st, r, v2, d2, 1, 10 ^ 12, rfl, h2.lasts (.of s1), ?_⟩
        cases hb2 : withinD 1 (10 ^ 12) d2 with
        | false =>
          exact ⟨_, rfl, iteT ⟨.ref ed, rfl, ed, _, 2, v2, rfl, rfl, hsq1, atI_nat (j := 2) rfl, (show (2 : Nat) ≤ sizeLine by decide), fun p np => qe (2, 2) (by rw [ef2]; exact if_pos hb2) _ p (s1.trans (sameNew np)) (SqT.of upd_same)⟩⟩
        | true =>
          have ef3 : edFail (cs, gs) 3 d1 d2 = (if 10 ≤ gs.length then some (4, 4) else none) := by rw [ef2]; exact if_neg (by rw [hb2]; decide)
          obtain ⟨row, er, el⟩ := list_ints hb
          have d1p : Dp K H1 v1 d1 := Dq.to_dp (to_listD hb) (h1.lasts (.of s1))
          obtain ⟨b, rfl, b0, b1⟩ := within_int hb2
          cases h2
          refine ⟨_, rfl, iteF ?_⟩
          refine ⟨.ref ca, rfl, .ref ga, rfl, .ref ed, rfl, ed, _, 1, v1, rfl, rfl, hsq1, atI_nat (j := 1) rfl, .ref ed, rfl, ed, _, 2, .int b, rfl, rfl, hsq1, atI_nat (j := 2) rfl, (show (2 : Nat) ≤ sizeLine by decide), fun G nG => ⟨(show (1 : Nat) ≤ sizeLine by decide), fun T nT => ?_⟩⟩
          have sG := sameNew (o := .tup [v1, .int b]) nG
          have sT := sameNew (o := .tup [.ref G]) nT
          have tkA := TupK.of (s1.trans (sG.trans sT))
          refine cat_eq (tkA.sq hgt) (SqT.of upd_same) (Nat.le_of_lt (small (by rw [List.length_singleton]; omega))) fun H2 g2 s2 hg2 => ⟨(show (2 : Nat) ≤ sizeLine by decide), fun I nI => ⟨(show (2 : Nat) ≤ sizeLine by decide), fun F nF => ?_⟩⟩
          have sI := sameNew (o := .tup [.ref ca, .ref g2]) nI
          have sF := sameNew (o := .tup [V.str "state", .ref I]) nF
          have s12 := s1.trans (sG.trans (sT.trans s2))
          have dG : Dp K H2 (.ref G) (dGrp (lstD d1, b)) := by
            have d1q := (TupK.of (sG.trans (sT.trans s2))).dp _ _ (to_listD hb) d1p
            have : d1 = dI (lstD d1) := by rw [el]; exact er
            rw [this] at d1q
            exact .tup ((TupK.of (sT.trans s2)).sq (SqT.of upd_same)) (.cons d1q (.cons (.int _) .nil))
          have dg : Dp K H2 (.ref g2) (.tuple ((gs ++ [(lstD d1, b)]).map dGrp)) := by
            rw [List.map_append]
            exact .tup hg2 (dpAll_app ((TupK.of s12).dpAll _ _ (to_grps gs) hgs) (.cons dG .nil))
          have dc : Dp K H2 (.ref ca) (dI cs) := .tup ((TupK.of s12).sq hc) (dp_ints _)
          have dI' : Dp K (upd H2 I (.tup [.ref ca, .ref g2])) (.ref I) (dI2 (cs, gs ++ [(lstD d1, b)])) := .tup (SqT.of upd_same) (.cons ((TupK.of sI).dp _ _ (to_dI _) dc) (.cons ((TupK.of sI).dp _ _ (show tupOnly (.tuple ((gs ++ [(lstD d1, b)]).map dGrp)) = true from to_grps _) dg) .nil))
          have hI5 : SqT K (upd (upd H2 I (.tup [.ref ca, .ref g2])) F (.tup [V.str "state", .ref I])) F [V.str "state", .ref I] := SqT.of upd_same
          have s0F := (s12.trans sI).trans sF
          have dI5 := (TupK.of sF).dp _ _ (to_dInst _ _) dI'
          generalize upd (upd H2 I (.tup [.ref ca, .ref g2])) F (.tup [V.str "state", .ref I]) = H5 at hI5 s0F dI5 ⊢
          refine ⟨.ref F, rfl, (show (2 : Nat) ≤ sizeLine by decide), fun M nM => ⟨(show (2 : Nat) ≤ sizeLine by decide), fun L nL => ?_⟩⟩
          have sM := sameNew (o := .tup [V.str "TooMany", V.int 10]) nM
          have sL := sameNew (o := .lst [V.ref F, V.ref M]) nL
          have s5 := s0F.trans (sM.trans sL)
          have t5 := TupK.of (sM.trans sL)
          refine ⟨.ref ga, rfl, ga, _, rfl, .inr ((TupK.of s5).sq hgt), _, _, rfl, rfl, .inr ⟨_, rfl, ?_⟩⟩
          by_cases h9 : 10 ≤ gs.length
          · have hb9 : decide ((9 : Int) < ((xs.length : Nat) : Int)) = true := decide_eq_true (by omega)
            refine ⟨L, _, 1, .ref M, rfl, by first | (rw [hb9]; rfl) | (simp only [hb9]; rfl), SqL.of upd_same, rfl, ?_⟩
            exact qe (4, 4) (by rw [ef3]; exact if_pos h9) _ M s5 ((TupK.of sL).sq (SqT.of upd_same))
          · have hb9 : decide ((9 : Int) < ((xs.length : Nat) : Int)) = false := decide_eq_false (by omega)
            refine ⟨L, _, 0, .ref F, rfl, by first | (rw [hb9]; rfl) | (simp only [hb9]; rfl), SqL.of upd_same, rfl, ?_⟩
            exact qs (by rw [ef3]; exact if_neg h9) _ F I s5 (t5.sq hI5) (t5.dp _ _ (to_dInst _ _) dI5)
    · have hsq : SqT K H ed [.str "add_post", v1] := hsq
      have ef : edFail (cs, gs) 5 d1 d2 = (if withinD 1 (10 ^ 12) d1 = false then some (2, 1) else if 6 ≤ cs.length then some (4, 3) else none) := rfl
      refine ⟨.ref ed, rfl, ed, _, 0, .str "add_post", rfl, rfl, hsq, atI_nat (j := 0) rfl, rfl, _, rfl, iteT ?_⟩
      refine ⟨.ref ed, rfl, ed, _, 1, v1, rfl, rfl, hsq, atI_nat (j := 1) rfl, _, _, rfl, rfl, ⟨by decide, by decide, by decide⟩, st, r, v1, d1, 1, 10 ^ 12, rfl, h1, ?_⟩
      cases hb : withinD 1 (10 ^ 12) d1 with
      | false =>
        exact ⟨_, rfl, iteT ⟨.ref ed, rfl, ed, _, 1, v1, rfl, rfl, hsq, atI_nat (j := 1) rfl, (show (2 : Nat) ≤ sizeLine by decide), fun p np => qe (2, 1) (by rw [ef]; exact if_pos hb) _ p (sameNew np) (SqT.of upd_same)⟩⟩
      | true =>
        have ef3 : edFail (cs, gs) 5 d1 d2 = (if 6 ≤ cs.length then some (4, 3) else none) := by rw [ef]; exact if_neg (by rw [hb]; decide)
        obtain ⟨b, rfl, b0, b1⟩ := within_int hb
        cases h1
        refine ⟨_, rfl, iteF ?_⟩
        refine ⟨.ref ca, rfl, .ref ed, rfl, ed, _, 1, .int b, rfl, rfl, hsq, atI_nat (j := 1) rfl, (show (1 : Nat) ≤ sizeLine by decide), fun T nT => ?_⟩
        have sT := sameNew (o := .tup [.int b]) nT
        refine cat_eq ((TupK.of sT).sq hc) (SqT.of upd_same) (Nat.le_of_lt (small (by rw [List.length_singleton, lc]; omega))) fun H2 c2 s2 hc2 => ⟨.ref ga, rfl, (show (2 : Nat) ≤ sizeLine by decide), fun I nI => ⟨(show (2 : Nat) ≤ sizeLine by decide), fun F nF => ?_⟩⟩
        have sI := sameNew (o := .tup [.ref c2, .ref ga]) nI
        have sF := sameNew (o := .tup [V.str "state", .ref I]) nF
        have s12 := sT.trans s2
        have dc : Dp K H2 (.ref c2) (dI (cs ++ [b])) := by
          have e1 : (cs ++ [b]).map V.int = cs.map V.int ++ [.int b] := by rw [List.map_append]; rfl
          rw [← e1] at hc2
          exact .tup hc2 (dp_ints _)
        have dg : Dp K H2 (.ref ga) (.tuple (gs.map dGrp)) := .tup ((TupK.of s12).sq hgt) ((TupK.of s12).dpAll _ _ (to_grps gs) hgs)
        have dI' : Dp K (upd H2 I (.tup [.ref c2, .ref ga])) (.ref I) (dI2 (cs ++ [b], gs)) := .tup (SqT.of upd_same) (.cons ((TupK.of sI).dp _ _ (to_dI _) dc) (.cons ((TupK.of sI).dp _ _ (show tupOnly (.tuple (gs.map dGrp)) = true from to_grps _) dg) .nil))
        have hI5 : SqT K (upd (upd H2 I (.tup [.ref c2, .ref ga])) F (.tup [V.str "state", .ref I])) F [V.str "state", .ref I] := SqT.of upd_same
        have s0F := (s12.trans sI).trans sF
        have dI5 := (TupK.of sF).dp _ _ (to_dInst _ _) dI'
        generalize upd (upd H2 I (.tup [.ref c2, .ref ga])) F (.tup [V.str "state", .ref I]) = H5 at hI5 s0F dI5 ⊢
        refine ⟨.ref F, rfl, (show (2 : Nat) ≤ sizeLine by decide), fun M nM => ⟨(show (2 : Nat) ≤ sizeLine by decide), fun L nL => ?_⟩⟩
        have sM := sameNew (o := .tup [V.str "TooMany", V.int 6]) nM
        have sL := sameNew (o := .lst [V.ref F, V.ref M]) nL
        have s5 := s0F.trans (sM.trans sL)
        have t5 := TupK.of (sM.trans sL)
        refine ⟨.ref ca, rfl, ca, _, rfl, .inr ((TupK.of s5).sq hc), _, _, rfl, rfl, .inr ⟨_, rfl, ?_⟩⟩
        by_cases h9 : 6 ≤ cs.length
        · have hb9 : decide ((5 : Int) < (((cs.map V.int).length : Nat) : Int)) = true := decide_eq_true (by omega)
          refine ⟨L, _, 1, .ref M, rfl, by first | (rw [hb9]; rfl) | (simp only [hb9]; rfl), SqL.of upd_same, rfl, ?_⟩
          exact qe (4, 3) (by rw [ef3]; exact if_pos h9) _ M s5 ((TupK.of sL).sq (SqT.of upd_same))
        · have hb9 : decide ((5 : Int) < (((cs.map V.int).length : Nat) : Int)) = false := decide_eq_false (by omega)
          refine ⟨L, _, 0, .ref F, rfl, by first | (rw [hb9]; rfl) | (simp only [hb9]; rfl), SqL.of upd_same, rfl, ?_⟩
          exact qs (by rw [ef3]; exact if_neg h9) _ F I s5 (t5.sq hI5) (t5.dp _ _ (to_dInst _ _) dI5)
set_option maxHeartbeats 16000000 in
theorem ok_D2 {f fFr : Addr} {fd fdFr : FuncData} (F : Fun K "_law_due_remove" "_law_due_remove" sD2 f fd)
    (FFr : Fun K "_law_from" "_law_from" sFr fFr fdFr) (bFr : Binds K fdFr ["_law_thing", "_law_low", "_law_high"] []) (gFr : mg "_law_from" = some (.ref fFr)) (GFr : FnOk P w K mg base CX0 1 fFr fdFr ["_law_thing", "_law_low", "_law_high"] (spInteg K))
    (m_len : mg "len" = none) (m_int : mg "int" = none) (m_tuple : mg "tuple" = none) :
    FnOk P w K mg base CX0 3 f fd ["_law_instance_here", "_law_edit"] (spDueW K fun w => w = 4 ∨ w = 6) := by
  refine F.ok scD2 (fun vs H Q E h => ?_) (fun cdv A outer s H vs Q E hr h => ?_)
  · obtain ⟨st, r, i, ed, w, v1, v2, cs, gs, d1, d2, rfl, _⟩ := h; rfl
  · obtain ⟨st, r, i, ed, w, v1, v2, cs, gs, d1, d2, rfl, hw, hI, ok, hE, nw1, nw2, qe, qs⟩ := h
    refine ⟨_, pss_cons (ps_asg (pv 0) (pg_tup rfl (pgs_cons (pg_name (i := 2) scD2.nd rfl (.inl rfl)) (pgs_cons (pg_name (i := 3) scD2.nd rfl (.inl rfl)) pgs_nil))))
      (pss_cons (ps_set (i := 4) scD2.nd rfl (.inr rfl) (pe_ix ix_tup (pv 1) (pe_int) (fun _ _ => rfl)))
      (pss_cons (ps_if (pt_cmpR op_eq (pe_ix ix_tup (pv 1) (pe_int) (fun _ _ => rfl)) (pe_str) (nomark _))
        (pss_cons (ps_if (pt_not (pt_val (pe_call GFr (hr.mono (by omega)) (by rfl) gFr FFr.kp bFr .nil pass0 (pa_cons (pv 4) (pa_cons (pe_int) (pa_cons (pe_op op_sub (pe_callB call_lenQ (by rfl) m_len PySem.boot_len (pa_cons (pv 3) pa_nil)) (pe_int)) pa_nil))))))
          (pss_one (ps_ret (pe_tup (pa_cons (pe_str) (pa_cons (pv 4) pa_nil))))) pss_nil)
        (pss_cons (ps_if (pt_cmpR op_eq (pe_callB call_lenQ (by rfl) m_len PySem.boot_len (pa_cons (pv 3) pa_nil)) (pe_int) (nomark _))
          (pss_one (ps_ret (pe_tup (pa_cons (pe_str) pa_nil)))) pss_nil)
        (pss_one (ps_ret (pe_tup (pa_cons (pe_str) (pa_cons (pe_tup (pa_cons (pv 2) (pa_cons (pe_op op_catA (pe_slice sl_tupA (pv 3) po_none (po_some (pv 4))) (pe_slice sl_tupA (pv 3) (po_some (pe_op op_add (pv 4) (pe_int))) po_none)) pa_nil))) pa_nil))))))) pss_nil)
      (pss_cons (ps_if (pt_not (pt_val (pe_call GFr (hr.mono (by omega)) (by rfl) gFr FFr.kp bFr .nil pass0 (pa_cons (pv 4) (pa_cons (pe_int) (pa_cons (pe_op op_sub (pe_callB call_lenQ (by rfl) m_len PySem.boot_len (pa_cons (pv 2) pa_nil)) (pe_int)) pa_nil))))))
        (pss_one (ps_ret (pe_tup (pa_cons (pe_str) (pa_cons (pv 4) pa_nil))))) pss_nil)
      (pss_cons (ps_if (pt_cmpR op_eq (pe_callB call_lenQ (by rfl) m_len PySem.boot_len (pa_cons (pv 2) pa_nil)) (pe_int) (nomark _))
        (pss_one (ps_ret (pe_tup (pa_cons (pe_str) pa_nil)))) pss_nil)
      (pss_cons (ps_set (i := 5) scD2.nd rfl (.inl rfl) (pe_lst (pa_nil)))
      (pss_cons (ps_for PassesOwn.never rfl (pi_tup (pv 3)) (pg_tup rfl (pgs_cons (pg_name (i := 6) scD2.nd rfl (.inl rfl)) (pgs_cons (pg_name (i := 7) scD2.nd rfl (.inl rfl)) pgs_nil)))
        (pss_one (ps_expr (pe_bm PySem.F.plainAttrs_list PySem.F.slot_list_append PySem.F.type_list_append mt_append (pv 5) (pa_cons (pe_tup (pa_cons (pe_callTy call_tupQ (by rfl) m_tuple (by decide +kernel) (pa_cons (pe_lc (own := [("_law_post", 8)]) (g := gName 8) (tt := tTest (tOp rNe (tVar 8) (tVar 4))) (te := tOp (rI0 fun i j => .int (i - j)) (tVar 8) (tCB (fun xs H Q => (∃ i, xs = [.int i] ∧ Q (.int i) H) ∨ ∃ k, xs = [.bl k] ∧ Q (.int (if k then 1 else 0)) H) (tCons (tOp (rI0 fun i j => .bl (decide (j < i))) (tVar 8) (tVar 4)) tNil))) rfl scD2.nd (pi_tup (pv 6)) (blkOk_by (N := ["_law_instance_here", "_law_edit", "_law_capacities", "_law_groups", "_law_spot", "_law_fresh", "_law_posts", "_law_count", "_law_post"]) (sc := defScope sD2) (by decide +kernel)) (fun _ _ _ _ _ => pg_name (i := 8) scD2.nd rfl (.inl rfl)) (fun _ _ _ _ _ => pts_one (pt_cmpR op_ne (pv 8) (pv 4) (nomark _))) (fun _ _ _ _ _ => pe_op op_sub (pv 8) (pe_callTy call_int1 (by rfl) m_int (by decide +kernel) (pa_cons (pe_cmpR op_gt (pv 8) (pv 4) (nomark _)) pa_nil)))) pa_nil)) (pa_cons (pv 7) pa_nil))) pa_nil)))))
      (pss_one (ps_ret (pe_tup (pa_cons (pe_str) (pa_cons (pe_tup (pa_cons (pe_op op_catA (pe_slice sl_tupA (pv 2) po_none (po_some (pv 4))) (pe_slice sl_tupA (pv 2) (po_some (pe_op op_add (pv 4) (pe_int))) po_none)) (pa_cons (pe_callTy call_tupQ (by rfl) m_tuple (by decide +kernel) (pa_cons (pv 5) pa_nil)) pa_nil))) pa_nil))))))))))), ?_⟩
    obtain ⟨_, ca, ga, xs, e, hi, hc, hgt, hgs⟩ := inst_open hI
    cases e
    have lx := DpAll.len hgs
    rw [List.length_map] at lx
    have lc : (cs.map V.int).length = cs.length := List.length_map ..
    have h6 := ok.c6
    have h10 := ok.g10
    have h1 := hE.h1
    have h2 := hE.h2
    have hsq := hE.sq
    refine ⟨.ref i, rfl, i, _, rfl, hi, rfl, _, _, rfl, _, _, rfl, rfl, ?_⟩
    rcases hw with rfl | rfl
    · skip
      have hsq : SqT K H ed [.str "remove_group", v1] := hsq
      have ef : edFail (cs, gs) 4 d1 d2 = (if ok1 1 cs gs d1 = false then some (1, 1) else if gs.length = 1 then some (5, 0) else none) := rfl
      refine ⟨.ref ed, rfl, ed, _, 1, v1, rfl, rfl, hsq, atI_nat (j := 1) rfl, ?_⟩
      refine ⟨.ref ed, rfl, ed, _, 0, .str "remove_group", rfl, rfl, hsq, atI_nat (j := 0) rfl, rfl, _, rfl, iteT ?_⟩
      refine ⟨v1, rfl, .ref ga, rfl, ga, _, rfl, .inr hgt, _, _, rfl, rfl, st, r, v1, d1, 0, bnd 1 cs gs, by rw [lx]; rfl, h1, ?_⟩
      cases hb : withinD 0 (bnd 1 cs gs) d1 with
      | false =>
        exact ⟨_, rfl, iteT ⟨v1, rfl, (show (2 : Nat) ≤ sizeLine by decide), fun p np => qe (1, 1) (by rw [ef]; exact if_pos hb) _ p (sameNew np) (SqT.of upd_same)⟩⟩
      | true =>
        have ef2 : edFail (cs, gs) 4 d1 d2 = (if gs.length = 1 then some (5, 0) else none) := by rw [ef]; exact if_neg (fun z : ok1 1 cs gs d1 = false => by have hb : ok1 1 cs gs d1 = true := hb; rw [hb] at z; cases z)
        refine ⟨_, rfl, iteF ?_⟩
        obtain ⟨a, rfl, a0, a1⟩ := within_int hb
        obtain ⟨n, rfl⟩ : ∃ n : Nat, a = n := ⟨a.toNat, by omega⟩
        cases h1
        have ha1 : ((n : Nat) : Int) ≤ (gs.length : Nat) - 1 := a1
        refine ⟨.ref ga, rfl, ga, _, rfl, .inr hgt, rfl, _, rfl, ite2 (fun h3 => ?_) (fun h3 => ?_)⟩
        · have h3 := V.int.inj (of_decide_eq_true h3)
          exact ⟨(show (1 : Nat) ≤ sizeLine by decide), fun p np => qe (5, 0) (by rw [ef2]; exact if_pos (by omega)) _ p (sameNew np) (SqT.of upd_same)⟩
        have h3 : gs.length ≠ 1 := fun z => h3 (decide_eq_true (by rw [lx, z]; rfl))
        have ef3 : edFail (cs, gs) 4 (.int (n : Nat)) d2 = none := by rw [ef2]; exact if_neg h3
        refine ⟨.ref ca, rfl, .ref ga, rfl, .int (n : Nat), rfl, _, rfl, take_eq hgt n fun H1 b1 s1 hb1 => ?_⟩
        refine ⟨.ref ga, rfl, .int (n : Nat), rfl, _, _, rfl, rfl, _, rfl, ?_⟩
        dsimp only [tNoPart]
        rw [show ((n : Int) + 1) = ((n + 1 : Nat) : Int) by omega]
        refine drop_eq ((TupK.of s1).sq hgt) (n + 1) fun H2 b2 s2 hb2 => ?_
        refine cat_eq ((TupK.of s2).sq hb1) hb2 (Nat.le_of_lt (small (by rw [List.length_take, List.length_drop]; omega))) fun H3 b3 s3 hb3 => ⟨(show (2 : Nat) ≤ sizeLine by decide), fun I nI => ⟨(show (2 : Nat) ≤ sizeLine by decide), fun p np => ?_⟩⟩
        have sI := sameNew (o := .tup [.ref ca, .ref b3]) nI
        have sp := sameNew (o := .tup [V.str "state", .ref I]) np
        have s13 := s1.trans (s2.trans s3)
        have er : edRes (cs, gs) 4 (.int (n : Nat)) d2 = (cs, gs.take n ++ gs.drop (n + 1)) := by show (cs, gs.take (n : Int).toNat ++ gs.drop ((n : Int).toNat + 1)) = _; rw [Int.toNat_natCast]
        refine qs ef3 _ p I ((s13.trans sI).trans sp) (SqT.of upd_same) ?_
        rw [er]
        have hg := (TupK.of s13).dpAll _ _ (to_grps _) hgs
        have dg : Dp K H3 (.ref b3) (.tuple ((gs.take n ++ gs.drop (n + 1)).map dGrp)) := by
          rw [List.map_append, List.map_take, List.map_drop]
          exact .tup hb3 (dpAll_app (dpAll_take n hg) (dpAll_drop (n + 1) hg))
        have dc : Dp K H3 (.ref ca) (dI cs) := .tup ((TupK.of s13).sq hc) (dp_ints _)
        exact (TupK.of sp).dp _ _ (to_dInst _ _) (.tup (SqT.of upd_same) (.cons ((TupK.of sI).dp _ _ (to_dI _) dc) (.cons ((TupK.of sI).dp _ _ (show tupOnly (.tuple ((gs.take n ++ gs.drop (n + 1)).map dGrp)) = true from to_grps _) dg) .nil)))
    · skip
      have hsq : SqT K H ed [.str "remove_post", v1] := hsq
      have ef : edFail (cs, gs) 6 d1 d2 = (if ok1 0 cs gs d1 = false then some (0, 1) else if cs.length = 1 then some (5, 0) else none) := rfl
      refine ⟨.ref ed, rfl, ed, _, 1, v1, rfl, rfl, hsq, atI_nat (j := 1) rfl, ?_⟩
      refine ⟨.ref ed, rfl, ed, _, 0, .str "remove_post", rfl, rfl, hsq, atI_nat (j := 0) rfl, rfl, _, rfl, ite_f (str_f (by decide +kernel)) ?_⟩
      refine ⟨v1, rfl, .ref ca, rfl, ca, _, rfl, .inr hc, _, _, rfl, rfl, st, r, v1, d1, 0, bnd 0 cs gs, by rw [lc]; rfl, h1, ?_⟩
      cases hb : withinD 0 (bnd 0 cs gs) d1 with
      | false =>
        exact ⟨_, rfl, iteT ⟨v1, rfl, (show (2 : Nat) ≤ sizeLine by decide), fun p np => qe (0, 1) (by rw [ef]; exact if_pos hb) _ p (sameNew np) (SqT.of upd_same)⟩⟩
      | true =>
        have ef2 : edFail (cs, gs) 6 d1 d2 = (if cs.length = 1 then some (5, 0) else none) := by rw [ef]; exact if_neg (fun z : ok1 0 cs gs d1 = false => by have hb : ok1 0 cs gs d1 = true := hb; rw [hb] at z; cases z)
        refine ⟨_, rfl, iteF ?_⟩
        obtain ⟨a, rfl, a0, a1⟩ := within_int hb
        obtain ⟨n, rfl⟩ : ∃ n : Nat, a = n := ⟨a.toNat, by omega⟩
        cases h1
        have ha1 : ((n : Nat) : Int) ≤ (cs.length : Nat) - 1 := a1
        refine ⟨.ref ca, rfl, ca, _, rfl, .inr hc, rfl, _, rfl, ite2 (fun h3 => ?_) (fun h3 => ?_)⟩
        · have h3 := V.int.inj (of_decide_eq_true h3)
          exact ⟨(show (1 : Nat) ≤ sizeLine by decide), fun p np => qe (5, 0) (by rw [ef2]; exact if_pos (by omega)) _ p (sameNew np) (SqT.of upd_same)⟩
        have h3 : cs.length ≠ 1 := fun z => h3 (decide_eq_true (by rw [lc, z]; rfl))
        have ef3 : edFail (cs, gs) 6 (.int (n : Nat)) d2 = none := by rw [ef2]; exact if_neg h3
        refine ⟨Nat.zero_le _, fun F nF => ?_⟩
        have fF : H F = none := nF
        refine ⟨.ref ga, rfl, ga, rfl, ⟨_, (TupK.of (sameNew nF)).sq hgt⟩, for_it (walk_tup (K := K) (a := ga) (xs := xs))
          (fun k σ Hx => ∃ (y6 y7 : Option V) (zs : List V), σ = [some (.ref i), some (.ref ed), some (.ref ca), some (.ref ga), some (.int (n : Nat)), some (.ref F), y6, y7, none] ∧ Same H Hx ∧ Hx F = some (.lst zs) ∧ zs.length = k ∧ DpAll K Hx zs ((gs.take k).map fun g => dGrp (woL (n : Nat) g.1, g.2)))
          ⟨none, none, [], rfl, sameNew nF, upd_same, rfl, .nil⟩ (fun k σ Hx _ h => by obtain ⟨_, _, _, _, s, _⟩ := h; exact (TupK.of s).sq hgt) ?_ ?_⟩
        · rintro k v σ Hy Hx hk ⟨y6, y7, zs, rfl, sx, eF, lz, dz⟩ ⟨rfl, hv⟩
          have hkg : k < gs.length := by omega
          have hg := List.getElem?_eq_getElem hkg
          obtain ⟨gA, pA, hx, hG, hP⟩ := grp_at hgs hg
          rw [hx] at hv
          cases hv
          have gb := ok.gp gs[k] (List.getElem_mem hkg)
          have tk := TupK.of sx
          refine ⟨gA, _, rfl, tk.sq hG, rfl, _, _, rfl, _, _, rfl, rfl, ?_⟩
          refine ⟨.ref F, rfl, .inl ⟨rfl, _, SqL.of eF⟩, .ref pA, rfl, pA, rfl, ⟨_, tk.sq hP⟩, fun D nD => lc_it (walk_tup (K := K) (a := pA) (xs := gs[k].1.map V.int))
            (fun j H1 => Same Hx H1 ∧ H1 D = some (.lst ((woL (n : Nat) (gs[k].1.take j)).map V.int))) ⟨sameNew nD, upd_same⟩ (fun j H1 _ h => (TupK.of h.1).sq (tk.sq hP)) ?_ ?_⟩
          · rintro j w H1 H2 hj ⟨s1, e1⟩ ⟨rfl, hw⟩
            have hw : (gs[k].1.map V.int)[j]? = some w := hw
            rw [List.getElem?_map] at hw
            obtain ⟨x, hx2, rfl⟩ := Option.map_eq_some_iff.mp hw
            have lw : (woL (n : Nat) (gs[k].1.take j)).length ≤ 1000 := by
              unfold woL
              have := List.length_filter_le (fun x => decide (x ≠ ((n : Nat) : Int))) (gs[k].1.take j)
              rw [List.length_map]
              rw [List.length_take] at this; omega
            have stp : woL (n : Nat) (gs[k].1.take (j + 1)) = woL (n : Nat) (gs[k].1.take j) ++ if x = ((n : Nat) : Int) then [] else [if ((n : Nat) : Int) < x then x - 1 else x] := by
              unfold woL
              rw [take_snocW hx2, List.filter_append, List.map_append]
              by_cases c : x = ((n : Nat) : Int)
              · rw [if_pos c, List.filter_cons, if_neg (by simp [c])]; rfl
              · rw [if_neg c, List.filter_cons, if_pos (by simp [c])]; rfl
            refine ⟨rfl, .int x, rfl, .int (n : Nat), rfl, rfl, _, rfl, ite2 (fun h1 => ?_) (fun h1 => ?_)⟩
            · have hne : x ≠ ((n : Nat) : Int) := fun z => by rw [z] at h1; simp at h1
              rw [if_neg hne] at stp
              refine ⟨.int x, rfl, .int x, rfl, .int (n : Nat), rfl, _, _, rfl, rfl, .inr ⟨_, rfl, _, _, rfl, rfl, _, e1, by rw [List.length_map]; exact small (by omega), samePut s1 nD, ?_⟩⟩
              rw [upd_same, stp, List.map_append]
              by_cases h2 : ((n : Nat) : Int) < x
              · have hb9 : decide (((n : Nat) : Int) < x) = true := decide_eq_true h2
                rw [if_pos h2]
                simp only [hb9]; rfl
              · have hb9 : decide (((n : Nat) : Int) < x) = false := decide_eq_false h2
                rw [if_neg h2]
                simp only [hb9]
                show some (HO.lst (_ ++ [V.int (x - 0)])) = _
                rw [Int.sub_zero]; rfl
            · have he : x = ((n : Nat) : Int) := by
                by_cases c : x = ((n : Nat) : Int)
                · exact c
                · exact absurd (by simp [c]) h1
              rw [if_pos he, List.append_nil] at stp
              exact ⟨s1, by rw [stp]; exact e1⟩
          rintro H1 ⟨s1, e1⟩
          rw [List.length_map, List.take_length] at e1
          refine ⟨D, _, rfl, .inl ⟨SqL.of e1, fun T nT => ⟨_, rfl, (show (2 : Nat) ≤ sizeLine by decide), fun G nG => ?_⟩⟩⟩
          have sT := sameNew (o := .tup ((woL (n : Nat) gs[k].1).map V.int)) nT
          have sG := sameNew (o := .tup [.ref T, .int gs[k].2]) nG
          have s1G := s1.trans (sT.trans sG)
          have eF2 := s1G _ _ eF
          have dG : Dp K _ (.ref G) (dGrp (woL (n : Nat) gs[k].1, gs[k].2)) := .tup (SqT.of upd_same) (.cons (.tup ((TupK.of sG).sq (SqT.of upd_same)) (dp_ints _)) (.cons (.int _) .nil))
          refine ⟨F, _, _, rfl, rfl, eF2, by rw [lz]; exact small (by omega), _, _, zs ++ [.ref G], rfl, samePut (sx.trans s1G) fF, upd_same, by simp [lz], ?_⟩
          rw [take_snocW hg, List.map_append]
          have tp := TupK.put (o := .lst (zs ++ [V.ref G])) eF2
          exact dpAll_app (((TupK.of s1G).trans tp).dpAll _ _ (to_wo n _) dz) (.cons (tp.dp _ _ (to_dGrp _) dG) .nil)
        rintro σ H1 ⟨y6, y7, zs, rfl, s1, eF, lz, dz⟩
        rw [lx, List.take_length] at dz
        refine ⟨.ref ca, rfl, .int (n : Nat), rfl, _, rfl, take_eq ((TupK.of s1).sq hc) n fun H2 b1 s2 hb1 => ?_⟩
        refine ⟨.ref ca, rfl, .int (n : Nat), rfl, _, _, rfl, rfl, _, rfl, ?_⟩
        dsimp only [tNoPart]
        rw [show ((n : Int) + 1) = ((n + 1 : Nat) : Int) by omega]
        refine drop_eq ((TupK.of (s1.trans s2)).sq hc) (n + 1) fun H3 b2 s3 hb2 => ?_
        refine cat_eq ((TupK.of s3).sq hb1) hb2 (Nat.le_of_lt (small (by rw [List.length_take, List.length_drop, List.length_map]; omega))) fun H4 b3 s4 hb3 => ?_
        have s14 := s2.trans (s3.trans s4)
        refine ⟨.ref F, rfl, F, _, rfl, .inl ⟨SqL.of (s14 _ _ eF), fun T nT => ⟨(show (2 : Nat) ≤ sizeLine by decide), fun I nI => ⟨(show (2 : Nat) ≤ sizeLine by decide), fun p np => ?_⟩⟩⟩⟩
        have sT := sameNew (o := .tup zs) nT
        have sI := sameNew (o := .tup [.ref b3, .ref T]) nI
        have sp := sameNew (o := .tup [V.str "state", .ref I]) np
        have er : edRes (cs, gs) 6 (.int (n : Nat)) d2 = (cs.take n ++ cs.drop (n + 1), gs.map fun g => (woL (n : Nat) g.1, g.2)) := by
          show (cs.take (n : Int).toNat ++ cs.drop ((n : Int).toNat + 1), gs.map fun g => (woL (((n : Int).toNat : Nat) : Int) g.1, g.2)) = _
          rw [Int.toNat_natCast]
        refine qs ef3 _ p I (((s1.trans s14).trans (sT.trans sI)).trans sp) (SqT.of upd_same) ?_
        rw [er]
        have hmm : (gs.map fun g => dGrp (woL (n : Nat) g.1, g.2)) = (gs.map fun g => (woL (n : Nat) g.1, g.2)).map dGrp := by rw [List.map_map]; rfl
        have dg : Dp K (upd H4 T (.tup zs)) (.ref T) (.tuple ((gs.map fun g => (woL (n : Nat) g.1, g.2)).map dGrp)) := by
          rw [← hmm]
          exact .tup (SqT.of upd_same) ((TupK.of (s14.trans sT)).dpAll _ _ (to_wo n _) dz)
        have dc : Dp K (upd H4 T (.tup zs)) (.ref b3) (dI (cs.take n ++ cs.drop (n + 1))) := by
          have e1 : (cs.take n ++ cs.drop (n + 1)).map V.int = (cs.map V.int).take n ++ (cs.map V.int).drop (n + 1) := by rw [List.map_append, List.map_take, List.map_drop]
          rw [← e1] at hb3
          exact .tup ((TupK.of sT).sq hb3) (dp_ints _)
        exact (TupK.of sp).dp _ _ (to_dInst _ _) (.tup (SqT.of upd_same) (.cons ((TupK.of sI).dp _ _ (to_dI _) dc) (.cons ((TupK.of sI).dp _ _ (show tupOnly (.tuple ((gs.map fun g => (woL (n : Nat) g.1, g.2)).map dGrp)) = true from to_grps _) dg) .nil)))
set_option maxHeartbeats 16000000 in
theorem ok_Du {f fD1 fD2 fD0 : Addr} {fd fdD1 fdD2 fdD0 : FuncData} (F : Fun K "_law_due" "_law_due" sDu f fd)
    (FD1 : Fun K "_law_due_add" "_law_due_add" sD1 fD1 fdD1) (bD1 : Binds K fdD1 ["_law_instance_here", "_law_edit"] []) (gD1 : mg "_law_due_add" = some (.ref fD1)) (GD1 : FnOk P w K mg base CX0 3 fD1 fdD1 ["_law_instance_here", "_law_edit"] (spDueW K fun w => w = 3 ∨ w = 5))
    (FD2 : Fun K "_law_due_remove" "_law_due_remove" sD2 fD2 fdD2) (bD2 : Binds K fdD2 ["_law_instance_here", "_law_edit"] []) (gD2 : mg "_law_due_remove" = some (.ref fD2)) (GD2 : FnOk P w K mg base CX0 3 fD2 fdD2 ["_law_instance_here", "_law_edit"] (spDueW K fun w => w = 4 ∨ w = 6))
    (FD0 : Fun K "_law_due_set" "_law_due_set" sD0 fD0 fdD0) (bD0 : Binds K fdD0 ["_law_instance_here", "_law_edit"] []) (gD0 : mg "_law_due_set" = some (.ref fD0)) (GD0 : FnOk P w K mg base CX0 3 fD0 fdD0 ["_law_instance_here", "_law_edit"] (spDueW K fun w => w < 3))
     :
    FnOk P w K mg base CX0 4 f fd ["_law_instance_here", "_law_edit"] (spDue K) := by
  refine F.ok scDu (fun vs H Q E h => ?_) (fun cdv A outer s H vs Q E hr h => ?_)
  · obtain ⟨st, r, i, ed, w, v1, v2, cs, gs, d1, d2, rfl, _⟩ := h; rfl
  · obtain ⟨st, r, i, ed, w, v1, v2, cs, gs, d1, d2, rfl, hw, hI, ok, hE, nw1, nw2, qe, qs⟩ := h
    refine ⟨_, pss_cons (ps_if (pt_cmpR op_in_seq (pe_ix ix_tup (pv 1) (pe_int) (fun _ _ => rfl)) (pe_tup (pa_cons (pe_str) (pa_cons (pe_str) pa_nil))) (by rfl))
        (pss_one (ps_ret (pe_call GD1 (hr.mono (by omega)) (by rfl) gD1 FD1.kp bD1 .nil pass0 (pa_cons (pv 0) (pa_cons (pv 1) pa_nil))))) pss_nil)
      (pss_cons (ps_if (pt_cmpR op_in_seq (pe_ix ix_tup (pv 1) (pe_int) (fun _ _ => rfl)) (pe_tup (pa_cons (pe_str) (pa_cons (pe_str) pa_nil))) (by rfl))
        (pss_one (ps_ret (pe_call GD2 (hr.mono (by omega)) (by rfl) gD2 FD2.kp bD2 .nil pass0 (pa_cons (pv 0) (pa_cons (pv 1) pa_nil))))) pss_nil)
      (pss_one (ps_ret (pe_call GD0 (hr.mono (by omega)) (by rfl) gD0 FD0.kp bD0 .nil pass0 (pa_cons (pv 0) (pa_cons (pv 1) pa_nil)))))), ?_⟩
    have hsq := hE.sq
    refine ⟨.ref ed, rfl, ed, _, 0, .str (edW w), rfl, rfl, hsq, atI_nat (j := 0) rfl, (show (2 : Nat) ≤ sizeLine by decide), fun T1 n1 => ?_⟩
    have s1 := sameNew (o := .tup [V.str "add_group", V.str "add_post"]) n1
    have hE1 := hE.lasts (Lasts.of s1)
    have tk1 := TupK.of s1
    have sq1 : SqT K (upd H T1 (.tup [V.str "add_group", V.str "add_post"])) T1 [V.str "add_group", V.str "add_post"] := SqT.of upd_same
    have hI1 := tk1.dp _ _ (to_dInst cs gs) hI
    generalize upd H T1 (.tup [V.str "add_group", V.str "add_post"]) = H1 at s1 hE1 tk1 sq1 hI1 ⊢
    have h7 : w = 0 ∨ w = 1 ∨ w = 2 ∨ w = 3 ∨ w = 4 ∨ w = 5 ∨ w = 6 := by omega
    rcases h7 with rfl | rfl | rfl | rfl | rfl | rfl | rfl
    · refine ⟨T1, _, rfl, .inr sq1, rfl, rfl, _, rfl, ite_f (by decide +kernel) ?_⟩
      refine ⟨.ref ed, rfl, ed, _, 0, .str (edW 0), rfl, rfl, hE1.sq, atI_nat (j := 0) rfl, (show (2 : Nat) ≤ sizeLine by decide), fun T2 n2 => ?_⟩
      have s2 := s1.trans (sameNew (o := .tup [V.str "remove_group", V.str "remove_post"]) n2)
      have hE2 := hE.lasts (Lasts.of s2)
      have hI2 := (TupK.of s2).dp _ _ (to_dInst cs gs) hI
      refine ⟨T2, _, rfl, .inr (SqT.of upd_same), rfl, rfl, _, rfl, ite_f (by decide +kernel) ?_⟩
      exact ⟨.ref i, rfl, .ref ed, rfl, st, r, i, ed, 0, v1, v2, cs, gs, d1, d2, rfl, by decide, hI2, ok, hE2, nw1, nw2, fun cp h H' p s => qe cp h H' p (s2.trans s), fun h H' p i' s => qs h H' p i' (s2.trans s)⟩
    · refine ⟨T1, _, rfl, .inr sq1, rfl, rfl, _, rfl, ite_f (by decide +kernel) ?_⟩
      refine ⟨.ref ed, rfl, ed, _, 0, .str (edW 1), rfl, rfl, hE1.sq, atI_nat (j := 0) rfl, (show (2 : Nat) ≤ sizeLine by decide), fun T2 n2 => ?_⟩
      have s2 := s1.trans (sameNew (o := .tup [V.str "remove_group", V.str "remove_post"]) n2)
      have hE2 := hE.lasts (Lasts.of s2)
      have hI2 := (TupK.of s2).dp _ _ (to_dInst cs gs) hI
      refine ⟨T2, _, rfl, .inr (SqT.of upd_same), rfl, rfl, _, rfl, ite_f (by decide +kernel) ?_⟩
      exact ⟨.ref i, rfl, .ref ed, rfl, st, r, i, ed, 1, v1, v2, cs, gs, d1, d2, rfl, by decide, hI2, ok, hE2, nw1, nw2, fun cp h H' p s => qe cp h H' p (s2.trans s), fun h H' p i' s => qs h H' p i' (s2.trans s)⟩
    · refine ⟨T1, _, rfl, .inr sq1, rfl, rfl, _, rfl, ite_f (by decide +kernel) ?_⟩
      refine ⟨.ref ed, rfl, ed, _, 0, .str (edW 2), rfl, rfl, hE1.sq, atI_nat (j := 0) rfl, (show (2 : Nat) ≤ sizeLine by decide), fun T2 n2 => ?_⟩
      have s2 := s1.trans (sameNew (o := .tup [V.str "remove_group", V.str "remove_post"]) n2)
      have hE2 := hE.lasts (Lasts.of s2)
      have hI2 := (TupK.of s2).dp _ _ (to_dInst cs gs) hI
      refine ⟨T2, _, rfl, .inr (SqT.of upd_same), rfl, rfl, _, rfl, ite_f (by decide +kernel) ?_⟩
      exact ⟨.ref i, rfl, .ref ed, rfl, st, r, i, ed, 2, v1, v2, cs, gs, d1, d2, rfl, by decide, hI2, ok, hE2, nw1, nw2, fun cp h H' p s => qe cp h H' p (s2.trans s), fun h H' p i' s => qs h H' p i' (s2.trans s)⟩
    · refine ⟨T1, _, rfl, .inr sq1, rfl, rfl, _, rfl, ite_t (by decide +kernel) ?_⟩
      exact ⟨.ref i, rfl, .ref ed, rfl, st, r, i, ed, 3, v1, v2, cs, gs, d1, d2, rfl, by decide, hI1, ok, hE1, nw1, nw2, fun cp h H' p s => qe cp h H' p (s1.trans s), fun h H' p i' s => qs h H' p i' (s1.trans s)⟩
    · refine ⟨T1, _, rfl, .inr sq1, rfl, rfl, _, rfl, ite_f (by decide +kernel) ?_⟩
      refine ⟨.ref ed, rfl, ed, _, 0, .str (edW 4), rfl, rfl, hE1.sq, atI_nat (j := 0) rfl, (show (2 : Nat) ≤ sizeLine by decide), fun T2 n2 => ?_⟩
      have s2 := s1.trans (sameNew (o := .tup [V.str "remove_group", V.str "remove_post"]) n2)
      have hE2 := hE.lasts (Lasts.of s2)
      have hI2 := (TupK.of s2).dp _ _ (to_dInst cs gs) hI
      refine ⟨T2, _, rfl, .inr (SqT.of upd_same), rfl, rfl, _, rfl, ite_t (by decide +kernel) ?_⟩
      exact ⟨.ref i, rfl, .ref ed, rfl, st, r, i, ed, 4, v1, v2, cs, gs, d1, d2, rfl, by decide, hI2, ok, hE2, nw1, nw2, fun cp h H' p s => qe cp h H' p (s2.trans s), fun h H' p i' s => qs h H' p i' (s2.trans s)⟩
    · refine ⟨T1, _, rfl, .inr sq1, rfl, rfl, _, rfl, ite_t (by decide +kernel) ?_⟩
      exact ⟨.ref i, rfl, .ref ed, rfl, st, r, i, ed, 5, v1, v2, cs, gs, d1, d2, rfl, by decide, hI1, ok, hE1, nw1, nw2, fun cp h H' p s => qe cp h H' p (s1.trans s), fun h H' p i' s => qs h H' p i' (s1.trans s)⟩
    · refine ⟨T1, _, rfl, .inr sq1, rfl, rfl, _, rfl, ite_f (by decide +kernel) ?_⟩
      refine ⟨.ref ed, rfl, ed, _, 0, .str (edW 6), rfl, rfl, hE1.sq, atI_nat (j := 0) rfl, (show (2 : Nat) ≤ sizeLine by decide), fun T2 n2 => ?_⟩
      have s2 := s1.trans (sameNew (o := .tup [V.str "remove_group", V.str "remove_post"]) n2)
      have hE2 := hE.lasts (Lasts.of s2)
      have hI2 := (TupK.of s2).dp _ _ (to_dInst cs gs) hI
      refine ⟨T2, _, rfl, .inr (SqT.of upd_same), rfl, rfl, _, rfl, ite_t (by decide +kernel) ?_⟩
      exact ⟨.ref i, rfl, .ref ed, rfl, st, r, i, ed, 6, v1, v2, cs, gs, d1, d2, rfl, by decide, hI2, ok, hE2, nw1, nw2, fun cp h H' p s => qe cp h H' p (s2.trans s), fun h H' p i' s => qs h H' p i' (s2.trans s)⟩
end
end Pv
namespace Pv
open PySem PySem.Spec PyProof.Rows L2
/-! defs that run while an error is handled and look at it -/
structure FnZ (P : Program) (w : World) (K : PySem.W.Frag) (mg : Str → Option Value) (base : Heap) (k : Nat) (f : Addr) (fd : FuncData) (ps : List Str) (sp : Addr → Value → Option Addr → Sp) : Prop where
  ln : ∀ a c d vs H Q E, sp a c d vs H Q E → vs.length = ps.length
  go : ∀ (A : Around) (outer : List Env) (s : Shared) (H : Hp) (args : Args) (us : List Value) (vs : List V) (Q : VK) (E : XK) (p : Addr × Obj) (c : Value) (d : Option Addr), L2H.RoomH k A → A.handled = some (.ref p.1) → Zc c d p.2 → (∃ v, p.2.data = .fields v) →
    L2H.PinOk outer H s p → Env0 P w K mg base A outer s H → BindsTo s fd args (ps.zip us) → Vals vs us → sp p.1 c d vs H Q E → codeAny (model P w) A (.call (.ref f) args) (CR CX0 outer P w H s Q E) s
theorem fnZ_of {P : Program} {w : World} {K : PySem.W.Frag} {mg : Str → Option Value} {base : Heap} {k : Nat} {f : Addr} {nm qn : Str} {pms : Arguments} {body : List Stmt} {sc : Scope} {dV kV dc pm cdv ct oc : Value} {an od : Option Addr} {osl : Array (Option Value)} {N ps : List Str} {sp : Addr → Value → Option Addr → Sp}
    (hl0 : K.lookup f = some ⟨oc, od, .func (PySem.W.fnOf nm qn pms body sc dV kV dc pm an cdv ct), osl⟩) (hcd : PySem.W.codeIn K cdv qn = true) (S : FnScope N ps sc) (ln : ∀ a c d vs H Q E, sp a c d vs H Q E → vs.length = ps.length)
    (hbd : ∀ (A : Around) (outer : List Env) (s : Shared) (H : Hp) (vs : List V) (Q : VK) (E : XK) (p : Addr × Obj) (c : Value) (d : Option Addr), (A.deeper (envOfC qn sc s.heap.objs.size f cdv)).handled = some (.ref p.1) → Zc c d p.2 → (∃ v, p.2.data = .fields v) → L2H.RoomH k (A.deeper (envOfC qn sc s.heap.objs.size f cdv)) → sp p.1 c d vs H Q E →
      ∃ t, PSs (L2H.cxH CX0 P w K mg base N qn sc f cdv A outer s H E p) body t ∧ t { nx := fun _ H' => Q .non H', rt := Q } (L2.start N vs) H) :
    FnZ P w K mg base (k + 1) f (PySem.W.fnOf nm qn pms body sc dV kV dc pm an cdv ct) ps sp := by
  refine ⟨ln, fun A outer s H args us vs Q E p c d rm hh hz hf pk e0 bt rel hsp => ?_⟩
  have hle := ln _ _ _ _ _ _ _ hsp
  have inK : K.In s.heap := e0.mod.kin.keeps fun b o e => (e0.bs b o e).1
  have nolim : s.heap.NoLimit := e0.mod.nolimit.keeps fun b o e => (e0.bs b o e).1
  have kinds : ∀ y ∈ ps.zip us, sc.names.lookup y.1 = some .local ∨ (sc.names.lookup y.1 = some .cell ∧ ((cellsFrom (s.heap.objs.size + 1) sc.names []).lookup y.1).isSome = true) := by
    rintro ⟨n, v⟩ hy
    have := S.par n (List.of_mem_zip hy).1
    exact this.elim (fun q => .inl q) fun q => .inr ⟨q, PySem.W.cellsFrom_some _ _ _ (.inl q)⟩
  refine codeAny_call_function rm.depth (inK _ _ hl0) rfl S.co S.gen rfl (PySem.W.codeRec_of inK hcd) (bt _ _ _ _ (wpAny_newFunctionEnv_cells S.kind kinds ?_))
  rintro env rfl s1 x
  obtain ⟨t, ht, hq⟩ := hbd A outer s H vs Q E p c d hh hz hf (rm.deeper _) hsp
  refine ⟨nolim.keeps x.toInCall.keep, codeAny_func (wpAny_mono (ht.run [] s1 (L2.start N vs) H _ (L2H.inv_startH S pk e0 hle rel x) hq) ?_ fun e s' z => z)⟩
  intro fl s' z
  cases fl with
  | ret u => obtain ⟨v, σ', H', J, rv, q⟩ := z; exact ⟨v, H', J.os, J.bare, J.base, J.hok, rv, q⟩
  | next => obtain ⟨σ', H', J, q⟩ := z; exact ⟨V.non, H', J.os, J.bare, J.base, J.hok, rfl, q⟩
  | brk => obtain ⟨_, _, _, q⟩ := z; exact q.elim
  | cont => obtain ⟨_, _, _, q⟩ := z; exact q.elim
/-- isinstance of the error that is handled, in any context that holds it -/
theorem call_isP {X : Cx} {a : Addr} {oe : Obj} {cls : Value} {d : Option Addr} (hp : (a, oe) ∈ X.pn) (hz : Zc cls d oe) (hf : ∃ vs, oe.data = .fields vs) : CallR X (.builtin "isinstance") (rIsX X.K a cls d) := by
  intro pins s σ H xs us Q I r h
  obtain ⟨D, c, b, rfl, C, hdx, rfl, hc, q⟩ := h
  obtain ⟨u1, u2, rfl, r1, r2⟩ := vals2 r
  cases (show u1 = Value.ref a from r1)
  obtain ⟨hget, _⟩ := I.pin (a, oe) (List.mem_append.mpr (.inl hp))
  obtain ⟨vs, hv⟩ := hf
  have J : ∃ od, PySem.W.InstAt s.heap a oe D od := by
    cases d with
    | none =>
      refine ⟨none, hget, hz.1, by unfold PySem.W.notCls; rw [hv] <;> rfl, ?_⟩
      rw [hz.2]; trivial
    | some dx =>
      obtain ⟨fs, e⟩ := hdx dx rfl
      have hx : ObjOk X.prog X.w H s.heap dx (.xd fs) := I.hok dx _ e
      obtain ⟨mA, hns, _⟩ := hx
      obtain ⟨od, ho, _⟩ := lookIn_ns hns
      exact ⟨some od, hget, hz.1, by unfold PySem.W.notCls; rw [hv] <;> rfl, by rw [hz.2]; exact ho⟩
  obtain ⟨od, J⟩ := J
  have Z := PySem.W.kitx_exc (K := X.K) (x := a) (C := D) (ox := oe) (od := od) C.cl C.hg C.hk C.hs C.ha C.hn C.ht C.hm
  rcases hc with ⟨u, ku, e⟩ | ⟨tp, cs, ws, rfl, hT, ks, e⟩
  · have e2 := ku.eq r2
    subst e2
    exact PySem.W.kia_one Z I.kIn J e (fun z => nomatch z) fun tk => ⟨.bl b, H, I.kept (t' := tk) fun _ _ z => z, rfl, q⟩
  · cases (show u2 = Value.ref tp from r2)
    obtain ⟨_, its, rv, o, h1, h2, n, h3⟩ := (show ObjOk X.prog X.w H s.heap tp (.tup cs) from I.hok tp _ hT)
    have e3 := ClsV.all ks rv
    subst e3
    obtain ⟨oc, od', dt, sl⟩ := o
    simp only at h2 h3
    subst h2 h3
    exact PySem.W.kia_tup Z I.kIn J h1 e (fun z => nomatch z) fun tk => ⟨.bl b, H, I.kept (t' := tk) fun _ _ z => z, rfl, q⟩
/-- a field of the error that is handled, in any context that holds it -/
theorem pe_xfP {X : Cx} {a C : Addr} {oe : Obj} {cls : Value} {d : Option Addr} {e : Expr} {te : TE} {pos : Pos} {n : Str} (hp : (a, oe) ∈ X.pn) (T : XfC X.K C) (nn : PySem.W.findIn X.K (.ref C) n = some none) (hz : Zc cls d oe) (hf : ∃ v, oe.data = .fields v) (he : PE X e te)
    (ab : attributeBase e n X.env (eval e X.env) = eval e X.env := by rfl) : PE X (.Attribute e n pos) (tXf a cls d C n te) := by
  refine ⟨fun pins s σ H Q I h => attr_of ab (thn (he.run pins s σ H _ I h) ?_)⟩
  rintro u s1 ⟨x, H1, I1, rx, rfl, rfl, dd, fs, v, rfl, ea, l, q⟩
  obtain rfl : u = Value.ref a := rx
  have ha := (I1.pin (a, oe) (List.mem_append_left _ hp)).1
  obtain ⟨w, hd⟩ := hf
  obtain ⟨mA, hns, hr⟩ := (show ObjOk X.prog X.w H1 s1.heap dd (.xd fs) from I1.hok dd _ ea)
  obtain ⟨od, ho, hl⟩ := lookIn_ns hns
  have hrel := hr n
  rw [l] at hrel
  obtain ⟨z, hu, ru⟩ := RelO.some_of (v := v) (o := mA n) hrel
  have at_ : PySem.W.InstAt s1.heap a oe C (some od) := by
    refine ⟨ha, hz.1, ?_, ?_⟩
    · unfold PySem.W.notCls
      rw [hd] <;> rfl
    · rw [hz.2]; exact ho
  have own := PySem.W.findObj_own T.hdC nn rfl (by rw [hl, hu])
  exact HandSPX.exc_get I1.kIn at_ T.ga T.gg T.exC own (handed_of ru) ⟨v, H1, I1.tok _, ru, q⟩
section
variable {X : Cx} {k : Nat} {f : Addr} {fd : FuncData} {ps : List Str} {sp : Addr → Value → Option Addr → Sp} {x : Str} {q pos : Pos} {e : Expr} {es : List Expr} {t : TA} {a : Addr} {oe : Obj} {c : Value} {d : Option Addr}
theorem pe_callZ (F : FnZ X.prog X.w X.K X.mg X.base k f fd ps sp) (hp : (a, oe) ∈ X.pn) (hh : X.A.handled = some (.ref a)) (hz : Zc c d oe) (hf : ∃ v, oe.data = .fields v) (rm : L2H.RoomH k X.A) (hg : Gl X x) (hm : X.mg x = some (.ref f)) (hk : PySem.W.keepIn X.K (.ref f) = true) (hb : Binds X.K fd ps [])
    (ha : PA X (e :: es) t) (hdb : (x == ("__debug__" : Str)) = false := by decide) (he : starEach (e :: es) X.env = (false, eval e X.env) :: starEach es X.env := by rfl) (hpl : (backTo pos (starEach es X.env)).any (·.1) = false := by rfl) :
    PE X (.Call (.Name x q) (e :: es) [] pos) (tCallS (sp a c d) (fun _ => E0) t) := by
  refine ⟨fun pins s σ H Q I h => wpAny_Call_Name_kw (ld_glob I hg hm (PySem.W.callWith_K (h₀ := X.base) I.ok.mod.kin hk (thn (ha.run pos pins s σ H _ I h) ?_) he hpl) hdb)⟩
  rintro us s1 ⟨vs, H1, I1, r, q⟩
  refine ⟨I1.kIn, ?_⟩
  have hle : us.length = ps.length := r.length.symm.trans (F.ln _ _ _ _ _ _ _ q)
  have b := hb s1 us I1.kIn (by rw [List.append_nil]; exact hle)
  rw [List.append_nil] at b
  have g := I1.pin (a, oe) (List.mem_append_left _ hp)
  have pk : L2H.PinOk X.stack H1 s1 (a, oe) := by
    refine ⟨g.1, g.2.1, fun hm => ?_, g.2.2.2.2⟩
    rcases List.mem_cons.mp (I1.stkSub a hm) with z | z
    · exact g.2.2.1 z
    · exact g.2.2.2.1 z
  refine wpAny_call (codeAny_mono (F.go X.A X.stack s1 H1 ⟨us, []⟩ us vs Q E0 (a, oe) c d rm hh hz hf pk I1.env0 b r q) ?_)
  intro rr s' hq
  cases rr with
  | error e => exact hq.elim
  | ok fl =>
    cases fl with
    | ret u => exact I1.after hq
    | next => exact hq.elim
    | brk => exact hq.elim
    | cont => exact hq.elim
end
/-! except (A, B, C) as n -/
def wTupA (K : PySem.W.Frag) (cs : List Value) (i : Nat) (ts : Addr → Value → Option Addr → TS) (Wo : WX) (D : Ends) : WX := fun cls d σ H =>
  ∃ b, PySem.W.exmAny K cls cs = some b ∧ (b = true → ∀ a, H a = none → ts a cls d { nx := fun σ' H' => D.nx (σ'.set i none) H', rt := D.rt, bk := fun σ' H' => D.bk (σ'.set i none) H', ct := fun σ' H' => D.ct (σ'.set i none) H' } (σ.set i (some (.ref a))) H) ∧ (b = false → Wo cls d σ H)
section
variable {X : Cx} {i : Nat} {n x1 x2 x3 : Str} {c1 c2 c3 : Value} {body su : List Stmt} {s₀ : Stmt} {p1 p2 p3 pt ph po : Pos} {kk : Nat} {tb : WX → TS} {ts : Addr → Value → Option Addr → TS} {Wo : WX}
theorem ps_try_tupA (hN : X.N.Nodup) (hi : X.N[i]? = some n) (hln : X.env.kindOf n = some .local) (hs : X.stack = X.env :: X.outer) (hf : X.env.frame = some X.env.locals) (n1 : Names X x1 c1) (n2 : Names X x2 c2) (n3 : Names X x3 c3) (tk : Takes X Wo)
    (hb : ∀ (W : WX) (pn : List (Addr × Obj)) (xe : Value → Shared → Prop), Takes (X.tr pn xe) W → PassesOwn (model X.prog X.w) X.A X.env xe → PSs (X.tr pn xe) body (tb W))
    (hu : ∀ (a : Addr) (oe : Obj) (cls : Value) (d : Option Addr) (pn : List (Addr × Obj)), Zc cls d oe → (∃ vs, oe.data = .fields vs) → PSs (X.suite a ((a, oe) :: pn)) (s₀ :: su) (ts a cls d)) :
    PS X (.Try body [.ExceptHandler (some (.Tuple [.Name x1 p1, .Name x2 p2, .Name x3 p3] kk pt)) (some n) (s₀ :: su) ph] [] [] po) (fun D σ H => tb (wTupA X.K [c1, c2, c3] i ts Wo D) D σ H) := by
  refine ⟨fun pins s σ H D I h => ?_⟩
  have ok := I.ok
  have fra : X.A.frames = some (X.env :: X.outer) := ok.frames.trans (congrArg some hs)
  refine wpAny_Try_except (wpAny_mono ((hb (wTupA X.K [c1, c2, c3] i ts Wo D) (X.pn ++ pins) (fun e s1 => wpAny (model X.prog X.w) X.A (noteFrame e X.env) (fun _ s2 => wpAny (model X.prog X.w) X.A (setFlight e none) (fun _ s3 =>
    wpAny (model X.prog X.w) X.A (handleBy e X.env [.ExceptHandler (some (.Tuple [.Name x1 p1, .Name x2 p2, .Name x3 p3] kk pt)) (some n) (s₀ :: su) ph]) (SP X pins D) X.xe s3) X.xe s2) X.xe s1) (fun v s' z => ?_) PassesOwn.looking).run [] s σ H D (I.toTry _) h) (fun f s1 z => ?_) fun e s1 he => he)
  · obtain ⟨a, B, sI, pins', σ', H', cls, d, rfl, J', nb, up, sky, na, os, ag, b, m1, yes, no⟩ := z
    have J : Inv X pins σ' H' sI := J'.ofTry ok
    show wpAny (model X.prog X.w) X.A (noteFrame (.ref a) X.env) _ _ _
    refine Sky.land Zc.steady fra hf (by rw [← hs]; exact sky) fun h3 fl3 up3 => ?_
    have J3 : Inv X pins σ' H' { s' with heap := h3 } := J.landed nb fl3.1 (up.trans up3) os ag
    obtain ⟨oe3, vs3, he3, hz3, hd3⟩ := fl3.there
    have away : ∀ {g : Heap} {o : Obj} {ws : Array Value}, g.FunFrames B (X.env :: X.outer) → g.get? a = some o → o.data = .fields ws → a ∉ frs (X.env :: X.outer) := fun {g o ws} ff e dd hm => by
      obtain ⟨_, o', e', hnf⟩ := ff.mem hm
      exact hnf _ ((congrArg Obj.data (Option.some.inj (e'.symm.trans e))).trans dd)
    have nfr := away fl3.2.2.1 he3 hd3
    have nL : a ≠ X.env.locals := fun z => nfr (List.mem_filterMap.mpr ⟨X.env, List.mem_cons_self, hf.trans (congrArg some z.symm)⟩)
    have nF : a ∉ X.fs := fun hm => let ⟨e, he, q⟩ := List.mem_filterMap.mp hm; nfr (List.mem_filterMap.mpr ⟨e, List.mem_cons_of_mem _ he, q⟩)
    have S3 := J3.suite he3 hd3 na nL nF
    refine wpAny_handleBy_cons (codeAny_handlers_test ?_) (by intro q; cases q)
    have nm : ∀ {x : Str} {c : Value} {p : Pos} {Q : Value → Shared → Prop} {E : Value → Shared → Prop}, Names X x c → Q c { s' with heap := h3 } → wpAny (model X.prog X.w) (X.A.mark (some (.ref a))) (eval (.Name x p) X.env) Q E { s' with heap := h3 } := fun {x c p Q E} n q => by
      obtain ⟨hg, hdb, hm | ⟨hm, hv, hnn⟩⟩ := n
      · exact ld_glob (X := X.suite a ((a, oe3) :: (X.pn ++ pins))) S3 hg hm q hdb
      · exact ld_blt (X := X.suite a ((a, oe3) :: (X.pn ++ pins))) S3 hg hm hv q hnn hdb
    refine wpAny_Tuple (wpAny_items_cons (nm n1 (wpAny_items_cons (nm n2 (wpAny_items_cons (nm n3 (wpAny_items_nil ⟨by size_fits, ?_⟩)))))))
    have kp : ∀ q o, h3.get? q = some o → (h3.push { cls := .type "tuple", data := .seq [c1, c2, c3].toArray }).get? q = some o := fun _ _ z => Heap.get?_push_of_some _ z
    have LT : PySem.W.Looks (model X.prog X.w) (h3.push { cls := .type "tuple", data := .seq [c1, c2, c3].toArray }) (typeOf (.ref a)) cls := fun A Q E s k q => wpAny_typeOf_ref (k _ _ (kp _ _ he3)) (hz3.1.symm ▸ q)
    have J4 : Inv X pins σ' H' { s' with heap := h3.push { cls := .type "tuple", data := .seq [c1, c2, c3].toArray } } := J3.kept (t' := s'.toks) kp
    refine (PySem.W.exm_tup3 J4.kIn LT (Heap.get?_push_size h3 rfl) m1).here ?_
    have fl4 := fly_more fl3 kp
    have up4 := (up.trans up3).trans (Heap.UpToSlots.of_keeps kp)
    have he4 := kp _ _ he3
    generalize h3.push { cls := .type "tuple", data := .seq [c1, c2, c3].toArray } = g4 at J4 fl4 up4 he4 ⊢
    cases b with
    | true =>
      refine codeAny_handlers_suite_as (HandSPX.lands_againZ fl4 fun g5 fl5 up5 => ?_)
      have J5 : Inv X pins σ' H' { s' with heap := g5 } := J.landed nb fl5.1 (up4.trans up5) os ag
      obtain ⟨oe5, vs5, he5, hz5, hd5⟩ := fl5.there
      have S5 := J5.suite he5 hd5 na nL nF
      have loc : Loc X.env.scope n := .inl hln
      refine store_ok (X := X.suite a ((a, oe5) :: (X.pn ++ pins))) (v := .ref a) S5 hN hi loc rfl (fun s5 T5 => ?_) (.inr hln)
      refine wpAny_mono ((hu a oe5 cls d (X.pn ++ pins) hz5 ⟨_, hd5⟩).run [] s5 _ H' _ T5 (yes rfl a na)) (fun f s6 z => ?_) (fun _ _ z => False.elim z)
      have fin : ∀ {σ6 : L2.St} {H6 : Hp} {Q : Shared → Prop}, Inv (X.suite a ((a, oe5) :: (X.pn ++ pins))) [] σ6 H6 s6 → (∀ s7, Inv X pins (σ6.set i none) H6 s7 → Q s7) →
          wpAny (model X.prog X.w) X.A (do bindName X.env n .none; unbindBehindTheSuite X.env n ph) (fun _ s7 => Q s7) X.xe s6 := fun {σ6 H6 Q} S6 hq => gone_ok (S6.unsuite ok) hN hi hln hq
      cases f with
      | next => obtain ⟨σ6, H6, S6, q⟩ := z; exact fin S6 fun s7 J7 => ⟨_, _, J7, q⟩
      | brk => obtain ⟨σ6, H6, S6, q⟩ := z; exact fin S6 fun s7 J7 => ⟨_, _, J7, q⟩
      | cont => obtain ⟨σ6, H6, S6, q⟩ := z; exact fin S6 fun s7 J7 => ⟨_, _, J7, q⟩
      | ret u => obtain ⟨v6, σ6, H6, S6, r6, q⟩ := z; exact fin S6 fun s7 J7 => ⟨_, _, _, J7, r6, q⟩
    | false =>
      show wpAny _ X.A (handleBy (.ref a) X.env []) _ _ _
      refine wpAny_handleBy_nil ?_
      obtain ⟨k1, k2, k3, oe, vs, T, oT, ts', he, hz, hd, t1, hr⟩ := id fl4
      unfold PySem.passOn
      refine wpAny_bind (wpAny_field he hd t1 ?_)
      rw [if_neg (show ¬ ((Value.ref T == Value.none) = true) from by simp)]
      have fin : wpAny (model X.prog X.w) X.A (setFlight (.ref a) X.env.frame) (fun _ s4 => wpAny (model X.prog X.w) X.A (throw (.ref a) : Sem Flow) (SP X pins D) X.xe s4) X.xe { s' with heap := g4 } := by
        rw [hf]
        exact HandSPX.setFlight_upZ fl4 fun g5 hh5 up5 => wpAny_throw (tk _ _ ⟨a, B, sI, pins, σ', H', cls, d, rfl, J, nb, up4.trans up5, .inr (.inr (by rw [hs]; exact hh5)), na, os, ag, no rfl⟩)
      first
        | exact wpAny_bind (wpAny_pure (wpAny_bind fin))
        | exact wpAny_bind fin
  · cases f with
    | next => obtain ⟨σ', H', J', q⟩ := z; exact wpAny_execs_nil ⟨σ', H', J'.ofTry ok, q⟩
    | brk => obtain ⟨σ', H', J', q⟩ := z; exact ⟨σ', H', J'.ofTry ok, q⟩
    | cont => obtain ⟨σ', H', J', q⟩ := z; exact ⟨σ', H', J'.ofTry ok, q⟩
    | ret u => obtain ⟨v, σ', H', J', r, q⟩ := z; exact ⟨v, σ', H', J'.ofTry ok, r, q⟩
end
end Pv
namespace Pv
open PySem PySem.Spec PyProof.Rows L2
abbrev sOO : Stmt := topS 74
theorem scOO : FnScope ["_law_found"] ["_law_found"] (defScope sOO) := ⟨rfl, rfl, rfl, by decide +kernel, rfl, by decide +kernel, by decide +kernel⟩
abbrev sKi : Stmt := topS 87
theorem scKi : FnScope ["_law_error", "_law_lost", "_law_found"] ["_law_error"] (defScope sKi) := ⟨rfl, rfl, rfl, by decide +kernel, rfl, by decide +kernel, by decide +kernel⟩
abbrev sAs : Stmt := topS 88
theorem scAs : FnScope ["_law_bench", "_law_edit", "_law_found", "_law_error"] ["_law_bench", "_law_edit"] (defScope sAs) := ⟨rfl, rfl, rfl, by decide +kernel, rfl, by decide +kernel, by decide +kernel⟩
theorem okZ {P : Program} {w : World} {K : PySem.W.Frag} {mg : Str → Option Value} {base : Heap} {x qn : Str} {st : Stmt} {f : Addr} {fd : FuncData} {N ps : List Str} {k : Nat} {sp : Addr → Value → Option Addr → Sp} (F : Fun K x qn st f fd) (S : FnScope N ps (defScope st)) (ln : ∀ a c d vs H Q E, sp a c d vs H Q E → vs.length = ps.length)
    (hbd : ∀ (cdv : Value) (A : Around) (outer : List Env) (s : Shared) (H : Hp) (vs : List V) (Q : VK) (E : XK) (p : Addr × Obj) (c : Value) (d : Option Addr), (A.deeper (envOfC qn (defScope st) s.heap.objs.size f cdv)).handled = some (.ref p.1) → Zc c d p.2 → (∃ v, p.2.data = .fields v) → L2H.RoomH k (A.deeper (envOfC qn (defScope st) s.heap.objs.size f cdv)) → sp p.1 c d vs H Q E →
      ∃ t, PSs (L2H.cxH CX0 P w K mg base N qn (defScope st) f cdv A outer s H E p) (defBody st) t ∧ t { nx := fun _ H' => Q .non H', rt := Q } (L2.start N vs) H) : FnZ P w K mg base (k + 1) f fd ps sp := by
  obtain ⟨oc, od, kV, dc, pm, an, cdv, ct, osl, rfl, lk, hcd⟩ := F.ex
  exact fnZ_of lk hcd S ln fun A outer s H vs Q E p c d hh hz hf rm hs => hbd cdv A outer s H vs Q E p c d hh hz hf rm hs
def spOO (K : PySem.W.Frag) : Addr → Value → Option Addr → Sp := fun _ _ _ vs H Q _ => ∃ (l : Addr) (x : V), vs = [.ref l] ∧ H l = some (.lst [x]) ∧ ∀ H', Same H H' → Q x H'
/-- the error is of the k-th class and holds what cp tells -/
def ErrAt (cl : Nat → Addr) (cp : Nat × Nat) (v1 v2 : V) (c : Value) (d : Option Addr) (H : Hp) : Prop := c = .ref (cl cp.1) ∧ cp.1 < 6 ∧ ((cp.1 < 5 ∧ cp.2 ≠ 0 ∧ (cp.1 = 4 ↔ 2 < cp.2) ∧ ∃ dx, d = some dx ∧ H dx = some (.xd [(fldP cp.2, valP cp.2 v1 v2)])) ∨ (cp.1 = 5 ∧ cp.2 = 0 ∧ d = none))
def spKi (K : PySem.W.Frag) (cl : Nat → Addr) : Addr → Value → Option Addr → Sp := fun a c d vs H Q _ => ∃ (cp : Nat × Nat) (v1 v2 : V), vs = [.ref a] ∧ ErrAt cl cp v1 v2 c d H ∧ ∀ H' p, Same H H' → SqT K H' p (errV cp v1 v2) → Q (.ref p) H'
structure KX (K : PySem.W.Frag) (cl : Nat → Addr) : Prop where
  ic : ∀ k, k < 6 → IsC K (cl k)
  lk : ∀ k, k < 6 → PySem.W.kitOne K (.ref (cl k)) (.type "LookupError") = some (decide (k < 2))
  ve : ∀ k, k < 6 → PySem.W.kitOne K (.ref (cl k)) (.type "ValueError") = some (decide (2 ≤ k))
  cc : ∀ k j, k < 6 → j < 6 → PySem.W.kitOne K (.ref (cl k)) (.ref (cl j)) = some (decide (k = j))
section
variable {P : Program} {w : World} {K : PySem.W.Frag} {mg : Str → Option Value} {base : Heap}
set_option maxHeartbeats 16000000 in
theorem ok_OO {f : Addr} {fd : FuncData} (F : Fun K "_law_one_of" "_law_one_of" sOO f fd) (m_len : mg "len" = none) (m_int : mg "int" = none) : FnZ P w K mg base 1 f fd ["_law_found"] (spOO K) := by
  refine okZ F scOO (fun a c d vs H Q E h => ?_) (fun cdv A outer s H vs Q E p c d hh hz hf rm h => ?_)
  · obtain ⟨l, x, rfl, _⟩ := h; rfl
  · obtain ⟨l, x, rfl, hl, q⟩ := h
    refine ⟨_, pss_one (ps_ret (pe_ix ix_list (pe_lst (pa_cons (pe_tup (pa_cons (pe_str) pa_nil)) (pa_cons (pe_ix ix_list (pe_op op_cat (pv 0) (pe_lst (pa_cons (pe_tup (pa_nil)) pa_nil))) (pe_int) (fun _ _ => rfl)) pa_nil))) (pe_callTy call_int1 (by rfl) m_int (by decide +kernel) (pa_cons (pe_cmpR op_eq (pe_callB call_lenQ (by rfl) m_len PySem.boot_len (pa_cons (pv 0) pa_nil)) (pe_int) (nomark _)) pa_nil)) (fun _ _ => rfl))), ?_⟩
    refine ⟨(show (1 : Nat) ≤ sizeLine by decide), fun A1 n1 => ⟨.ref l, rfl, Nat.zero_le _, fun A2 n2 => ⟨(show (1 : Nat) ≤ sizeLine by decide), fun A3 n3 => ?_⟩⟩⟩
    have s1 := sameNew (o := .tup [V.str "other"]) n1
    have s2 := sameNew (o := .tup []) n2
    have s3 := sameNew (o := .lst [V.ref A2]) n3
    have s13 := s1.trans (s2.trans s3)
    refine ⟨l, A3, _, _, rfl, rfl, s13 _ _ hl, upd_same, (show (2 : Nat) ≤ sizeLine by decide), fun A4 n4 => ?_⟩
    have s4 := sameNew (o := .lst ([x] ++ [V.ref A2])) n4
    refine ⟨A4, _, 0, x, rfl, rfl, SqL.of upd_same, rfl, (show (2 : Nat) ≤ sizeLine by decide), fun A5 n5 => ?_⟩
    have s5 := sameNew (o := .lst [V.ref A1, x]) n5
    have s15 := s13.trans (s4.trans s5)
    refine ⟨.ref l, rfl, l, _, rfl, .inl (SqL.of (s15 _ _ hl)), rfl, .inr ⟨_, rfl, ?_⟩⟩
    exact ⟨A5, _, 1, x, rfl, rfl, SqL.of upd_same, rfl, q _ s15⟩
set_option maxHeartbeats 16000000 in
theorem ok_Ki {f fOO : Addr} {fd fdOO : FuncData} (F : Fun K "_law_kind" "_law_kind" sKi f fd)
    (FOO : Fun K "_law_one_of" "_law_one_of" sOO fOO fdOO) (bOO : Binds K fdOO ["_law_found"] []) (gOO : mg "_law_one_of" = some (.ref fOO)) (GOO : FnZ P w K mg base 1 fOO fdOO ["_law_found"] (spOO K))
    {cNP fiNP : Addr} (gNP : mg "NoPost" = some (.ref cNP)) (XNP : XL K cNP fiNP "value")
    {cNG fiNG : Addr} (gNG : mg "NoGroup" = some (.ref cNG)) (XNG : XL K cNG fiNG "value")
    {cBN fiBN : Addr} (gBN : mg "BadNumber" = some (.ref cBN)) (XBN : XF K cBN fiBN "value")
    {cBL fiBL : Addr} (gBL : mg "BadList" = some (.ref cBL)) (XBL : XF K cBL fiBL "value")
    {cTM fiTM : Addr} (gTM : mg "TooMany" = some (.ref cTM)) (XTM : XF K cTM fiTM "limit")
    {cLO fiLO : Addr} (gLO : mg "LastOne" = some (.ref cLO))
    (XX : KX K (clE cNP cNG cBN cBL cTM cLO)) (m_isinstance : mg "isinstance" = none) (m_LookupError : mg "LookupError" = none) (m_ValueError : mg "ValueError" = none) :
    FnZ P w K mg base 2 f fd ["_law_error"] (spKi K (clE cNP cNG cBN cBL cTM cLO)) := by
  refine okZ F scKi (fun a c d vs H Q E h => ?_) (fun cdv A outer s H vs Q E p c d hh hz hf rm h => ?_)
  · obtain ⟨cp, v1, v2, rfl, _⟩ := h; rfl
  · obtain ⟨cp, v1, v2, rfl, hE, q⟩ := h
    obtain ⟨a, oe⟩ := p
    have hp : (a, oe) ∈ (L2H.cxH CX0 P w K mg base ["_law_error", "_law_lost", "_law_found"] "_law_kind" (defScope sKi) f cdv A outer s H E (a, oe)).pn := List.mem_singleton.mpr rfl
    refine ⟨_, pss_cons (ps_set (i := 1) scKi.nd rfl (.inl rfl) (pe_and (pe_callB (call_isP (cls := c) (d := d) hp hz hf) (by rfl) m_isinstance (by decide +kernel) (pa_cons (pv 0) (pa_cons (pe_bltn (v := .ty "LookupError") (by rfl) m_LookupError (by decide +kernel) rfl) pa_nil))) (pe_one (pe_not (pe_callB (call_isP (cls := c) (d := d) hp hz hf) (by rfl) m_isinstance (by decide +kernel) (pa_cons (pv 0) (pa_cons (pe_bltn (v := .ty "ValueError") (by rfl) m_ValueError (by decide +kernel) rfl) pa_nil)))))))
      (pss_cons (ps_set (i := 2) scKi.nd rfl (.inl rfl) (pe_lst pa_nil))
      (pss_cons (ps_if (PW.pt (pw_and (pt_val (pe_callB (call_isP (cls := c) (d := d) hp hz hf) (by rfl) m_isinstance (by decide +kernel) (pa_cons (pv 0) (pa_cons (pe_glob (v := .ref cNP) (by rfl) gNP rfl) pa_nil)))) (pw_and1 (pt_val (pv 1)))))
        (pss_one (ps_expr (pe_bm PySem.F.plainAttrs_list PySem.F.slot_list_append PySem.F.type_list_append mt_append (pv 2) (pa_cons (pe_tup (pa_cons pe_str (pa_cons (pe_xfP (cls := c) (d := d) hp XNP.rd XNP.no hz hf (pv 0)) pa_nil))) pa_nil)))) pss_nil)
      (pss_cons (ps_if (PW.pt (pw_and (pt_val (pe_callB (call_isP (cls := c) (d := d) hp hz hf) (by rfl) m_isinstance (by decide +kernel) (pa_cons (pv 0) (pa_cons (pe_glob (v := .ref cNG) (by rfl) gNG rfl) pa_nil)))) (pw_and1 (pt_val (pv 1)))))
        (pss_one (ps_expr (pe_bm PySem.F.plainAttrs_list PySem.F.slot_list_append PySem.F.type_list_append mt_append (pv 2) (pa_cons (pe_tup (pa_cons pe_str (pa_cons (pe_xfP (cls := c) (d := d) hp XNG.rd XNG.no hz hf (pv 0)) pa_nil))) pa_nil)))) pss_nil)
      (pss_cons (ps_if (pt_val (pe_callB (call_isP (cls := c) (d := d) hp hz hf) (by rfl) m_isinstance (by decide +kernel) (pa_cons (pv 0) (pa_cons (pe_glob (v := .ref cBN) (by rfl) gBN rfl) pa_nil))))
        (pss_one (ps_expr (pe_bm PySem.F.plainAttrs_list PySem.F.slot_list_append PySem.F.type_list_append mt_append (pv 2) (pa_cons (pe_tup (pa_cons pe_str (pa_cons (pe_xfP (cls := c) (d := d) hp XBN.rd XBN.no hz hf (pv 0)) pa_nil))) pa_nil)))) pss_nil)
      (pss_cons (ps_if (pt_val (pe_callB (call_isP (cls := c) (d := d) hp hz hf) (by rfl) m_isinstance (by decide +kernel) (pa_cons (pv 0) (pa_cons (pe_glob (v := .ref cBL) (by rfl) gBL rfl) pa_nil))))
        (pss_one (ps_expr (pe_bm PySem.F.plainAttrs_list PySem.F.slot_list_append PySem.F.type_list_append mt_append (pv 2) (pa_cons (pe_tup (pa_cons pe_str (pa_cons (pe_xfP (cls := c) (d := d) hp XBL.rd XBL.no hz hf (pv 0)) pa_nil))) pa_nil)))) pss_nil)
      (pss_cons (ps_if (pt_val (pe_callB (call_isP (cls := c) (d := d) hp hz hf) (by rfl) m_isinstance (by decide +kernel) (pa_cons (pv 0) (pa_cons (pe_glob (v := .ref cTM) (by rfl) gTM rfl) pa_nil))))
        (pss_one (ps_expr (pe_bm PySem.F.plainAttrs_list PySem.F.slot_list_append PySem.F.type_list_append mt_append (pv 2) (pa_cons (pe_tup (pa_cons pe_str (pa_cons (pe_xfP (cls := c) (d := d) hp XTM.rd XTM.no hz hf (pv 0)) pa_nil))) pa_nil)))) pss_nil)
      (pss_cons (ps_if (pt_val (pe_callB (call_isP (cls := c) (d := d) hp hz hf) (by rfl) m_isinstance (by decide +kernel) (pa_cons (pv 0) (pa_cons (pe_glob (v := .ref cLO) (by rfl) gLO rfl) pa_nil))))
        (pss_one (ps_expr (pe_bm PySem.F.plainAttrs_list PySem.F.slot_list_append PySem.F.type_list_append mt_append (pv 2) (pa_cons (pe_tup (pa_cons pe_str pa_nil)) pa_nil)))) pss_nil)
      (pss_cons (ps_if (PW.pt (pw_and (pt_not (pt_val (pv 1))) (pw_and1 (pt_not (pt_val (pe_callB (call_isP (cls := c) (d := d) hp hz hf) (by rfl) m_isinstance (by decide +kernel) (pa_cons (pv 0) (pa_cons (pe_bltn (v := .ty "ValueError") (by rfl) m_ValueError (by decide +kernel) rfl) pa_nil))))))))
        (pss_one (ps_set (i := 2) scKi.nd rfl (.inl rfl) (pe_lst pa_nil))) pss_nil)
      (pss_one (ps_ret (pe_callZ GOO hp hh hz hf (rm.mono (by omega)) (by rfl) gOO FOO.kp bOO (pa_cons (pv 2) pa_nil)))))))))))), ?_⟩
    obtain ⟨k, m⟩ := cp
    obtain ⟨rfl, hk6, hd⟩ := hE
    have dxd : ∀ {H' : Hp}, Same H H' → ∀ dx, d = some dx → ∃ fs, H' dx = some (.xd fs) := by
      intro H' sm dx hdx
      rcases hd with ⟨_, _, _, dz, e1, e2⟩ | ⟨_, _, e1⟩
      · rw [e1] at hdx; cases hdx; exact ⟨_, sm _ _ e2⟩
      · rw [e1] at hdx; cases hdx
    have ic := XX.ic k hk6
    have eL := XX.lk k hk6
    have eV := XX.ve k hk6
    have e0 := XX.cc k 0 hk6 (by decide)
    have e1 := XX.cc k 1 hk6 (by decide)
    have e2 := XX.cc k 2 hk6 (by decide)
    have e3 := XX.cc k 3 hk6 (by decide)
    have e4 := XX.cc k 4 hk6 (by decide)
    have e5 := XX.cc k 5 hk6 (by decide)
    have h6 : k = 0 ∨ k = 1 ∨ k = 2 ∨ k = 3 ∨ k = 4 ∨ k = 5 := by omega
    rcases h6 with rfl | rfl | rfl | rfl | rfl | rfl
    · refine ⟨.ref a, rfl, _, _, _, rfl, ic, dxd (Same.refl _), rfl, .inl ⟨_, .ty _, eL⟩, _, rfl, iteT ⟨.ref a, rfl, _, _, _, rfl, ic, dxd (Same.refl _), rfl, .inl ⟨_, .ty _, eV⟩, _, rfl, ?_⟩⟩
      refine ⟨Nat.zero_le _, fun L0 nL => ?_⟩
      have hL0 : H L0 = none := nL
      have s0 := sameNew (o := .lst []) nL
      have eL0 : (upd H L0 (.lst [])) L0 = some (.lst []) := upd_same
      generalize upd H L0 (.lst []) = H0 at s0 eL0 ⊢
      refine ⟨.ref a, rfl, _, _, _, rfl, ic, dxd s0, rfl, .inl ⟨_, .own _, e0⟩, _, rfl, iteT ⟨_, rfl, _, rfl, iteT ?_⟩⟩
      obtain ⟨dz, ed, ez⟩ : ∃ dz, d = some dz ∧ H0 dz = some (.xd [("value", valP m v1 v2)]) := by
        rcases hd with ⟨_, hm, hi, dz, e1, e2⟩ | ⟨h5, _⟩
        · refine ⟨dz, e1, ?_⟩
          have := s0 _ _ e2
          have hf2 : fldP m = "value" := by unfold fldP; rw [if_pos (by have : ¬ 2 < m := fun z => absurd (show (0 : Nat) = 4 from hi.mpr z) (by decide); omega)]
          rw [hf2] at this; exact this
        · exact absurd (show (0 : Nat) = 5 from h5) (by decide)
      have hm0 : m ≠ 0 := by
        rcases hd with ⟨_, hm, _⟩ | ⟨h5, _⟩
        · exact hm
        · exact absurd (show (0 : Nat) = 5 from h5) (by decide)
      refine ⟨.ref L0, rfl, .inl ⟨rfl, _, SqL.of eL0⟩, .ref a, rfl, rfl, rfl, dz, _, _, ed, ez, rfl, (show (2 : Nat) ≤ sizeLine by decide), fun T1 n1 => ?_⟩
      have tv : SqT K (upd H0 T1 (.tup [V.str "NoPost", valP m v1 v2])) T1 (errV (0, m) v1 v2) := by
        unfold errV; rw [if_neg hm0]; exact SqT.of upd_same
      have s1 := sameNew (o := .tup [V.str "NoPost", valP m v1 v2]) n1
      have eL1 := s1 _ _ eL0
      refine ⟨L0, _, _, rfl, rfl, eL1, (show (0 : Nat) < sizeLine by decide), ?_⟩
      have tk2 := TupK.put (o := .lst ([] ++ [V.ref T1])) eL1
      have tv2 := tk2.sq tv
      have s2 : Same H (upd (upd H0 T1 (.tup [V.str "NoPost", valP m v1 v2])) L0 (.lst ([] ++ [V.ref T1]))) := samePut (s0.trans s1) (hL0)
      have eL2 : (upd (upd H0 T1 (.tup [V.str "NoPost", valP m v1 v2])) L0 (.lst ([] ++ [V.ref T1]))) L0 = some (.lst [V.ref T1]) := upd_same
      generalize upd (upd H0 T1 (.tup [V.str "NoPost", valP m v1 v2])) L0 (.lst ([] ++ [V.ref T1])) = H2 at tv2 s2 eL2 ⊢
      refine ⟨.ref a, rfl, _, _, _, rfl, ic, dxd s2, rfl, .inl ⟨_, .own _, e1⟩, _, rfl, iteF (iteF ?_)⟩
      refine ⟨.ref a, rfl, _, _, _, rfl, ic, dxd s2, rfl, .inl ⟨_, .own _, e2⟩, _, rfl, iteF ?_⟩
      refine ⟨.ref a, rfl, _, _, _, rfl, ic, dxd s2, rfl, .inl ⟨_, .own _, e3⟩, _, rfl, iteF ?_⟩
      refine ⟨.ref a, rfl, _, _, _, rfl, ic, dxd s2, rfl, .inl ⟨_, .own _, e4⟩, _, rfl, iteF ?_⟩
      refine ⟨.ref a, rfl, _, _, _, rfl, ic, dxd s2, rfl, .inl ⟨_, .own _, e5⟩, _, rfl, iteF ?_⟩
      refine ⟨_, rfl, _, rfl, iteF (iteF ?_)⟩
      exact ⟨.ref L0, rfl, L0, .ref T1, rfl, eL2, fun H3 s3 => q H3 T1 (s2.trans s3) ((TupK.of s3).sq tv2)⟩
    · refine ⟨.ref a, rfl, _, _, _, rfl, ic, dxd (Same.refl _), rfl, .inl ⟨_, .ty _, eL⟩, _, rfl, iteT ⟨.ref a, rfl, _, _, _, rfl, ic, dxd (Same.refl _), rfl, .inl ⟨_, .ty _, eV⟩, _, rfl, ?_⟩⟩
      refine ⟨Nat.zero_le _, fun L0 nL => ?_⟩
      have hL0 : H L0 = none := nL
      have s0 := sameNew (o := .lst []) nL
      have eL0 : (upd H L0 (.lst [])) L0 = some (.lst []) := upd_same
      generalize upd H L0 (.lst []) = H0 at s0 eL0 ⊢
      refine ⟨.ref a, rfl, _, _, _, rfl, ic, dxd s0, rfl, .inl ⟨_, .own _, e0⟩, _, rfl, iteF (iteF ?_)⟩
      refine ⟨.ref a, rfl, _, _, _, rfl, ic, dxd s0, rfl, .inl ⟨_, .own _, e1⟩, _, rfl, iteT ⟨_, rfl, _, rfl, iteT ?_⟩⟩
      obtain ⟨dz, ed, ez⟩ : ∃ dz, d = some dz ∧ H0 dz = some (.xd [("value", valP m v1 v2)]) := by
        rcases hd with ⟨_, hm, hi, dz, e1, e2⟩ | ⟨h5, _⟩
        · refine ⟨dz, e1, ?_⟩
          have := s0 _ _ e2
          have hf2 : fldP m = "value" := by unfold fldP; rw [if_pos (by have : ¬ 2 < m := fun z => absurd (show (1 : Nat) = 4 from hi.mpr z) (by decide); omega)]
          rw [hf2] at this; exact this
        · exact absurd (show (1 : Nat) = 5 from h5) (by decide)
      have hm0 : m ≠ 0 := by
        rcases hd with ⟨_, hm, _⟩ | ⟨h5, _⟩
        · exact hm
        · exact absurd (show (1 : Nat) = 5 from h5) (by decide)
      refine ⟨.ref L0, rfl, .inl ⟨rfl, _, SqL.of eL0⟩, .ref a, rfl, rfl, rfl, dz, _, _, ed, ez, rfl, (show (2 : Nat) ≤ sizeLine by decide), fun T1 n1 => ?_⟩
      have tv : SqT K (upd H0 T1 (.tup [V.str "NoGroup", valP m v1 v2])) T1 (errV (1, m) v1 v2) := by
        unfold errV; rw [if_neg hm0]; exact SqT.of upd_same
      have s1 := sameNew (o := .tup [V.str "NoGroup", valP m v1 v2]) n1
      have eL1 := s1 _ _ eL0
      refine ⟨L0, _, _, rfl, rfl, eL1, (show (0 : Nat) < sizeLine by decide), ?_⟩
      have tk2 := TupK.put (o := .lst ([] ++ [V.ref T1])) eL1
      have tv2 := tk2.sq tv
      have s2 : Same H (upd (upd H0 T1 (.tup [V.str "NoGroup", valP m v1 v2])) L0 (.lst ([] ++ [V.ref T1]))) := samePut (s0.trans s1) (hL0)
      have eL2 : (upd (upd H0 T1 (.tup [V.str "NoGroup", valP m v1 v2])) L0 (.lst ([] ++ [V.ref T1]))) L0 = some (.lst [V.ref T1]) := upd_same
      generalize upd (upd H0 T1 (.tup [V.str "NoGroup", valP m v1 v2])) L0 (.lst ([] ++ [V.ref T1])) = H2 at tv2 s2 eL2 ⊢
      refine ⟨.ref a, rfl, _, _, _, rfl, ic, dxd s2, rfl, .inl ⟨_, .own _, e2⟩, _, rfl, iteF ?_⟩
      refine ⟨.ref a, rfl, _, _, _, rfl, ic, dxd s2, rfl, .inl ⟨_, .own _, e3⟩, _, rfl, iteF ?_⟩
      refine ⟨.ref a, rfl, _, _, _, rfl, ic, dxd s2, rfl, .inl ⟨_, .own _, e4⟩, _, rfl, iteF ?_⟩
      refine ⟨.ref a, rfl, _, _, _, rfl, ic, dxd s2, rfl, .inl ⟨_, .own _, e5⟩, _, rfl, iteF ?_⟩
      refine ⟨_, rfl, _, rfl, iteF (iteF ?_)⟩
      exact ⟨.ref L0, rfl, L0, .ref T1, rfl, eL2, fun H3 s3 => q H3 T1 (s2.trans s3) ((TupK.of s3).sq tv2)⟩
    · refine ⟨.ref a, rfl, _, _, _, rfl, ic, dxd (Same.refl _), rfl, .inl ⟨_, .ty _, eL⟩, _, rfl, iteF ?_⟩
      refine ⟨Nat.zero_le _, fun L0 nL => ?_⟩
      have hL0 : H L0 = none := nL
      have s0 := sameNew (o := .lst []) nL
      have eL0 : (upd H L0 (.lst [])) L0 = some (.lst []) := upd_same
      generalize upd H L0 (.lst []) = H0 at s0 eL0 ⊢
      refine ⟨.ref a, rfl, _, _, _, rfl, ic, dxd s0, rfl, .inl ⟨_, .own _, e0⟩, _, rfl, iteF (iteF ?_)⟩
      refine ⟨.ref a, rfl, _, _, _, rfl, ic, dxd s0, rfl, .inl ⟨_, .own _, e1⟩, _, rfl, iteF (iteF ?_)⟩
      refine ⟨.ref a, rfl, _, _, _, rfl, ic, dxd s0, rfl, .inl ⟨_, .own _, e2⟩, _, rfl, iteT ?_⟩
      obtain ⟨dz, ed, ez⟩ : ∃ dz, d = some dz ∧ H0 dz = some (.xd [("value", valP m v1 v2)]) := by
        rcases hd with ⟨_, hm, hi, dz, e1, e2⟩ | ⟨h5, _⟩
        · refine ⟨dz, e1, ?_⟩
          have := s0 _ _ e2
          have hf2 : fldP m = "value" := by unfold fldP; rw [if_pos (by have : ¬ 2 < m := fun z => absurd (show (2 : Nat) = 4 from hi.mpr z) (by decide); omega)]
          rw [hf2] at this; exact this
        · exact absurd (show (2 : Nat) = 5 from h5) (by decide)
      have hm0 : m ≠ 0 := by
        rcases hd with ⟨_, hm, _⟩ | ⟨h5, _⟩
        · exact hm
        · exact absurd (show (2 : Nat) = 5 from h5) (by decide)
      refine ⟨.ref L0, rfl, .inl ⟨rfl, _, SqL.of eL0⟩, .ref a, rfl, rfl, rfl, dz, _, _, ed, ez, rfl, (show (2 : Nat) ≤ sizeLine by decide), fun T1 n1 => ?_⟩
      have tv : SqT K (upd H0 T1 (.tup [V.str "BadNumber", valP m v1 v2])) T1 (errV (2, m) v1 v2) := by
        unfold errV; rw [if_neg hm0]; exact SqT.of upd_same
      have s1 := sameNew (o := .tup [V.str "BadNumber", valP m v1 v2]) n1
      have eL1 := s1 _ _ eL0
      refine ⟨L0, _, _, rfl, rfl, eL1, (show (0 : Nat) < sizeLine by decide), ?_⟩
      have tk2 := TupK.put (o := .lst ([] ++ [V.ref T1])) eL1
      have tv2 := tk2.sq tv
      have s2 : Same H (upd (upd H0 T1 (.tup [V.str "BadNumber", valP m v1 v2])) L0 (.lst ([] ++ [V.ref T1]))) := samePut (s0.trans s1) (hL0)
      have eL2 : (upd (upd H0 T1 (.tup [V.str "BadNumber", valP m v1 v2])) L0 (.lst ([] ++ [V.ref T1]))) L0 = some (.lst [V.ref T1]) := upd_same
      generalize upd (upd H0 T1 (.tup [V.str "BadNumber", valP m v1 v2])) L0 (.lst ([] ++ [V.ref T1])) = H2 at tv2 s2 eL2 ⊢
      refine ⟨.ref a, rfl, _, _, _, rfl, ic, dxd s2, rfl, .inl ⟨_, .own _, e3⟩, _, rfl, iteF ?_⟩
      refine ⟨.ref a, rfl, _, _, _, rfl, ic, dxd s2, rfl, .inl ⟨_, .own _, e4⟩, _, rfl, iteF ?_⟩
      refine ⟨.ref a, rfl, _, _, _, rfl, ic, dxd s2, rfl, .inl ⟨_, .own _, e5⟩, _, rfl, iteF ?_⟩
      refine ⟨_, rfl, _, rfl, iteT ⟨.ref a, rfl, _, _, _, rfl, ic, dxd s2, rfl, .inl ⟨_, .ty _, eV⟩, _, rfl, iteF ?_⟩⟩
      exact ⟨.ref L0, rfl, L0, .ref T1, rfl, eL2, fun H3 s3 => q H3 T1 (s2.trans s3) ((TupK.of s3).sq tv2)⟩
    · refine ⟨.ref a, rfl, _, _, _, rfl, ic, dxd (Same.refl _), rfl, .inl ⟨_, .ty _, eL⟩, _, rfl, iteF ?_⟩
      refine ⟨Nat.zero_le _, fun L0 nL => ?_⟩
      have hL0 : H L0 = none := nL
      have s0 := sameNew (o := .lst []) nL
      have eL0 : (upd H L0 (.lst [])) L0 = some (.lst []) := upd_same
      generalize upd H L0 (.lst []) = H0 at s0 eL0 ⊢
      refine ⟨.ref a, rfl, _, _, _, rfl, ic, dxd s0, rfl, .inl ⟨_, .own _, e0⟩, _, rfl, iteF (iteF ?_)⟩
      refine ⟨.ref a, rfl, _, _, _, rfl, ic, dxd s0, rfl, .inl ⟨_, .own _, e1⟩, _, rfl, iteF (iteF ?_)⟩
      refine ⟨.ref a, rfl, _, _, _, rfl, ic, dxd s0, rfl, .inl ⟨_, .own _, e2⟩, _, rfl, iteF ?_⟩
      refine ⟨.ref a, rfl, _, _, _, rfl, ic, dxd s0, rfl, .inl ⟨_, .own _, e3⟩, _, rfl, iteT ?_⟩
      obtain ⟨dz, ed, ez⟩ : ∃ dz, d = some dz ∧ H0 dz = some (.xd [("value", valP m v1 v2)]) := by
        rcases hd with ⟨_, hm, hi, dz, e1, e2⟩ | ⟨h5, _⟩
        · refine ⟨dz, e1, ?_⟩
          have := s0 _ _ e2
          have hf2 : fldP m = "value" := by unfold fldP; rw [if_pos (by have : ¬ 2 < m := fun z => absurd (show (3 : Nat) = 4 from hi.mpr z) (by decide); omega)]
          rw [hf2] at this; exact this
        · exact absurd (show (3 : Nat) = 5 from h5) (by decide)
      have hm0 : m ≠ 0 := by
        rcases hd with ⟨_, hm, _⟩ | ⟨h5, _⟩
        · exact hm
        · exact absurd (show (3 : Nat) = 5 from h5) (by decide)
      refine ⟨.ref L0, rfl, .inl ⟨rfl, _, SqL.of eL0⟩, .ref a, rfl, rfl, rfl, dz, _, _, ed, ez, rfl, (show (2 : Nat) ≤ sizeLine by decide), fun T1 n1 => ?_⟩
      have tv : SqT K (upd H0 T1 (.tup [V.str "BadList", valP m v1 v2])) T1 (errV (3, m) v1 v2) := by
        unfold errV; rw [if_neg hm0]; exact SqT.of upd_same
      have s1 := sameNew (o := .tup [V.str "BadList", valP m v1 v2]) n1
      have eL1 := s1 _ _ eL0
      refine ⟨L0, _, _, rfl, rfl, eL1, (show (0 : Nat) < sizeLine by decide), ?_⟩
      have tk2 := TupK.put (o := .lst ([] ++ [V.ref T1])) eL1
      have tv2 := tk2.sq tv
      have s2 : Same H (upd (upd H0 T1 (.tup [V.str "BadList", valP m v1 v2])) L0 (.lst ([] ++ [V.ref T1]))) := samePut (s0.trans s1) (hL0)
      have eL2 : (upd (upd H0 T1 (.tup [V.str "BadList", valP m v1 v2])) L0 (.lst ([] ++ [V.ref T1]))) L0 = some (.lst [V.ref T1]) := upd_same
      generalize upd (upd H0 T1 (.tup [V.str "BadList", valP m v1 v2])) L0 (.lst ([] ++ [V.ref T1])) = H2 at tv2 s2 eL2 ⊢
      refine ⟨.ref a, rfl, _, _, _, rfl, ic, dxd s2, rfl, .inl ⟨_, .own _, e4⟩, _, rfl, iteF ?_⟩
      refine ⟨.ref a, rfl, _, _, _, rfl, ic, dxd s2, rfl, .inl ⟨_, .own _, e5⟩, _, rfl, iteF ?_⟩
      refine ⟨_, rfl, _, rfl, iteT ⟨.ref a, rfl, _, _, _, rfl, ic, dxd s2, rfl, .inl ⟨_, .ty _, eV⟩, _, rfl, iteF ?_⟩⟩
      exact ⟨.ref L0, rfl, L0, .ref T1, rfl, eL2, fun H3 s3 => q H3 T1 (s2.trans s3) ((TupK.of s3).sq tv2)⟩
    · refine ⟨.ref a, rfl, _, _, _, rfl, ic, dxd (Same.refl _), rfl, .inl ⟨_, .ty _, eL⟩, _, rfl, iteF ?_⟩
      refine ⟨Nat.zero_le _, fun L0 nL => ?_⟩
      have hL0 : H L0 = none := nL
      have s0 := sameNew (o := .lst []) nL
      have eL0 : (upd H L0 (.lst [])) L0 = some (.lst []) := upd_same
      generalize upd H L0 (.lst []) = H0 at s0 eL0 ⊢
      refine ⟨.ref a, rfl, _, _, _, rfl, ic, dxd s0, rfl, .inl ⟨_, .own _, e0⟩, _, rfl, iteF (iteF ?_)⟩
      refine ⟨.ref a, rfl, _, _, _, rfl, ic, dxd s0, rfl, .inl ⟨_, .own _, e1⟩, _, rfl, iteF (iteF ?_)⟩
      refine ⟨.ref a, rfl, _, _, _, rfl, ic, dxd s0, rfl, .inl ⟨_, .own _, e2⟩, _, rfl, iteF ?_⟩
      refine ⟨.ref a, rfl, _, _, _, rfl, ic, dxd s0, rfl, .inl ⟨_, .own _, e3⟩, _, rfl, iteF ?_⟩
      refine ⟨.ref a, rfl, _, _, _, rfl, ic, dxd s0, rfl, .inl ⟨_, .own _, e4⟩, _, rfl, iteT ?_⟩
      obtain ⟨dz, ed, ez⟩ : ∃ dz, d = some dz ∧ H0 dz = some (.xd [("limit", valP m v1 v2)]) := by
        rcases hd with ⟨_, hm, hi, dz, e1, e2⟩ | ⟨h5, _⟩
        · refine ⟨dz, e1, ?_⟩
          have := s0 _ _ e2
          have hf2 : fldP m = "limit" := by unfold fldP; rw [if_neg (by have := hi.mp rfl; omega)]
          rw [hf2] at this; exact this
        · exact absurd (show (4 : Nat) = 5 from h5) (by decide)
      have hm0 : m ≠ 0 := by
        rcases hd with ⟨_, hm, _⟩ | ⟨h5, _⟩
        · exact hm
        · exact absurd (show (4 : Nat) = 5 from h5) (by decide)
      refine ⟨.ref L0, rfl, .inl ⟨rfl, _, SqL.of eL0⟩, .ref a, rfl, rfl, rfl, dz, _, _, ed, ez, rfl, (show (2 : Nat) ≤ sizeLine by decide), fun T1 n1 => ?_⟩
      have tv : SqT K (upd H0 T1 (.tup [V.str "TooMany", valP m v1 v2])) T1 (errV (4, m) v1 v2) := by
        unfold errV; rw [if_neg hm0]; exact SqT.of upd_same
      have s1 := sameNew (o := .tup [V.str "TooMany", valP m v1 v2]) n1
      have eL1 := s1 _ _ eL0
      refine ⟨L0, _, _, rfl, rfl, eL1, (show (0 : Nat) < sizeLine by decide), ?_⟩
      have tk2 := TupK.put (o := .lst ([] ++ [V.ref T1])) eL1
      have tv2 := tk2.sq tv
      have s2 : Same H (upd (upd H0 T1 (.tup [V.str "TooMany", valP m v1 v2])) L0 (.lst ([] ++ [V.ref T1]))) := samePut (s0.trans s1) (hL0)
      have eL2 : (upd (upd H0 T1 (.tup [V.str "TooMany", valP m v1 v2])) L0 (.lst ([] ++ [V.ref T1]))) L0 = some (.lst [V.ref T1]) := upd_same
      generalize upd (upd H0 T1 (.tup [V.str "TooMany", valP m v1 v2])) L0 (.lst ([] ++ [V.ref T1])) = H2 at tv2 s2 eL2 ⊢
      refine ⟨.ref a, rfl, _, _, _, rfl, ic, dxd s2, rfl, .inl ⟨_, .own _, e5⟩, _, rfl, iteF ?_⟩
      refine ⟨_, rfl, _, rfl, iteT ⟨.ref a, rfl, _, _, _, rfl, ic, dxd s2, rfl, .inl ⟨_, .ty _, eV⟩, _, rfl, iteF ?_⟩⟩
      exact ⟨.ref L0, rfl, L0, .ref T1, rfl, eL2, fun H3 s3 => q H3 T1 (s2.trans s3) ((TupK.of s3).sq tv2)⟩
    · refine ⟨.ref a, rfl, _, _, _, rfl, ic, dxd (Same.refl _), rfl, .inl ⟨_, .ty _, eL⟩, _, rfl, iteF ?_⟩
      refine ⟨Nat.zero_le _, fun L0 nL => ?_⟩
      have hL0 : H L0 = none := nL
      have s0 := sameNew (o := .lst []) nL
      have eL0 : (upd H L0 (.lst [])) L0 = some (.lst []) := upd_same
      generalize upd H L0 (.lst []) = H0 at s0 eL0 ⊢
      refine ⟨.ref a, rfl, _, _, _, rfl, ic, dxd s0, rfl, .inl ⟨_, .own _, e0⟩, _, rfl, iteF (iteF ?_)⟩
      refine ⟨.ref a, rfl, _, _, _, rfl, ic, dxd s0, rfl, .inl ⟨_, .own _, e1⟩, _, rfl, iteF (iteF ?_)⟩
      refine ⟨.ref a, rfl, _, _, _, rfl, ic, dxd s0, rfl, .inl ⟨_, .own _, e2⟩, _, rfl, iteF ?_⟩
      refine ⟨.ref a, rfl, _, _, _, rfl, ic, dxd s0, rfl, .inl ⟨_, .own _, e3⟩, _, rfl, iteF ?_⟩
      refine ⟨.ref a, rfl, _, _, _, rfl, ic, dxd s0, rfl, .inl ⟨_, .own _, e4⟩, _, rfl, iteF ?_⟩
      refine ⟨.ref a, rfl, _, _, _, rfl, ic, dxd s0, rfl, .inl ⟨_, .own _, e5⟩, _, rfl, iteT ?_⟩
      have hm0 : m = 0 := by
        rcases hd with ⟨h5, _⟩ | ⟨_, hm, _⟩
        · exact absurd (show (5 : Nat) < 5 from h5) (by decide)
        · exact hm
      refine ⟨.ref L0, rfl, .inl ⟨rfl, _, SqL.of eL0⟩, (show (1 : Nat) ≤ sizeLine by decide), fun T1 n1 => ?_⟩
      have tv : SqT K (upd H0 T1 (.tup [V.str "LastOne"])) T1 (errV (5, m) v1 v2) := by
        unfold errV; rw [if_pos hm0]; exact SqT.of upd_same
      have s1 := sameNew (o := .tup [V.str "LastOne"]) n1
      have eL1 := s1 _ _ eL0
      refine ⟨L0, _, _, rfl, rfl, eL1, (show (0 : Nat) < sizeLine by decide), ?_⟩
      have tk2 := TupK.put (o := .lst ([] ++ [V.ref T1])) eL1
      have tv2 := tk2.sq tv
      have s2 : Same H (upd (upd H0 T1 (.tup [V.str "LastOne"])) L0 (.lst ([] ++ [V.ref T1]))) := samePut (s0.trans s1) (hL0)
      have eL2 : (upd (upd H0 T1 (.tup [V.str "LastOne"])) L0 (.lst ([] ++ [V.ref T1]))) L0 = some (.lst [V.ref T1]) := upd_same
      generalize upd (upd H0 T1 (.tup [V.str "LastOne"])) L0 (.lst ([] ++ [V.ref T1])) = H2 at tv2 s2 eL2 ⊢
      refine ⟨_, rfl, _, rfl, iteT ⟨.ref a, rfl, _, _, _, rfl, ic, dxd s2, rfl, .inl ⟨_, .ty _, eV⟩, _, rfl, iteF ?_⟩⟩
      exact ⟨.ref L0, rfl, L0, .ref T1, rfl, eL2, fun H3 s3 => q H3 T1 (s2.trans s3) ((TupK.of s3).sq tv2)⟩
end
end Pv
namespace Pv
open PySem PySem.Spec PyProof.Rows L2
theorem ef_cp {x : Ins} {w : Nat} {d1 d2 : PyData} {cp : Nat × Nat} (hw : w < 7) (h : edFail x w d1 d2 = some cp) : cp = (0, 1) ∨ cp = (1, 1) ∨ cp = (2, 1) ∨ cp = (2, 2) ∨ cp = (3, 1) ∨ cp = (3, 2) ∨ cp = (4, 3) ∨ cp = (4, 4) ∨ cp = (5, 0) := by
  have h7 : w = 0 ∨ w = 1 ∨ w = 2 ∨ w = 3 ∨ w = 4 ∨ w = 5 ∨ w = 6 := by omega
  rcases h7 with rfl | rfl | rfl | rfl | rfl | rfl | rfl
  all_goals
    simp only [edFail] at h
    repeat' split at h
    all_goals first | (cases h; simp) | cases h
theorem ef_err {x : Ins} {w : Nat} {d1 d2 : PyData} {cp : Nat × Nat} {v1 v2 : V} {cl : Nat → Addr} {H : Hp} (hw : w < 7) (h : edFail x w d1 d2 = some cp) :
    (cp.2 = 0 → ErrAt cl cp v1 v2 (.ref (cl cp.1)) none H) ∧ (cp.2 ≠ 0 → ∀ dx, H dx = some (.xd [(fldP cp.2, valP cp.2 v1 v2)]) → ErrAt cl cp v1 v2 (.ref (cl cp.1)) (some dx) H) := by
  have hc := ef_cp hw h
  rcases hc with rfl | rfl | rfl | rfl | rfl | rfl | rfl | rfl | rfl
  all_goals
    refine ⟨fun z => ?_, fun z dx e => ?_⟩
    · first | exact absurd z (by decide) | exact ⟨rfl, by decide, .inr ⟨rfl, rfl, rfl⟩⟩
    · first | exact absurd rfl z | exact ⟨rfl, by decide, .inl ⟨by decide, by decide, by decide, dx, rfl, e⟩⟩
def spAs (K : PySem.W.Frag) (C : Addr) : Sp := fun vs H Q _ => ∃ (st r ob ed : Addr) (w : Nat) (v1 v2 : V) (d1 d2 : PyData) (ins : List Ins) (eds : List PyData), vs = [.ref ob, .ref ed] ∧ BnAt K C H ob ins eds false ∧ BnOk ins eds ∧ EdIn K H st r ed w v1 v2 d1 d2 ∧ eds.length < 60 ∧
  (∀ cp, edFail (lastI ins) w d1 d2 = some cp → ∀ H' p, Same H H' → SqT K H' p (errV cp v1 v2) → Q (.ref p) H') ∧
  (edFail (lastI ins) w d1 d2 = none → ∀ H' p, BnAt K C H' ob (ins ++ [edRes (lastI ins) w d1 d2]) (eds ++ [dEd w d1 d2]) false → BnOk (ins ++ [edRes (lastI ins) w d1 d2]) (eds ++ [dEd w d1 d2]) → Ex1 ob H H' → SqT K H' p [.str "told", .int ((eds.length + 1 : Nat))] → Q (.ref p) H')
section
variable {P : Program} {w : World} {K : PySem.W.Frag} {mg : Str → Option Value} {base : Heap}
set_option maxHeartbeats 16000000 in
theorem ok_As {cNP cNG cBN cBL cTM cLO cBu cTE cVE : Addr} {f fDo fKi : Addr} {fd fdDo fdKi : FuncData} {cB : Addr} (F : Fun K "_law_asked" "_law_asked" sAs f fd)
    (FDo : Fun K "_law_do" "_law_do" sDo fDo fdDo) (bDo : Binds K fdDo ["_law_bench", "_law_edit"] []) (gDo : mg "_law_do" = some (.ref fDo)) (GDo : FnOk P w K mg base (CX P w) 9 fDo fdDo ["_law_bench", "_law_edit"] (spDo K cB cBu cTE cNP cNG cBN cBL cTM cLO))
    (FKi : Fun K "_law_kind" "_law_kind" sKi fKi fdKi) (bKi : Binds K fdKi ["_law_error"] []) (gKi : mg "_law_kind" = some (.ref fKi)) (GKi : FnZ P w K mg base 2 fKi fdKi ["_law_error"] (spKi K (clE cNP cNG cBN cBL cTM cLO)))
    (gVE : mg "VoteError" = some (.ref cVE)) (gNP : mg "NoPost" = some (.ref cNP)) (gNG : mg "NoGroup" = some (.ref cNG)) (XB : ExB K cVE cTE cNP cNG cBN cBL cTM cLO) :
    FnOk P w K mg base CX0 10 f fd ["_law_bench", "_law_edit"] (spAs K cB) := by
  refine F.ok scAs (fun vs H Q E h => ?_) (fun cdv A outer s H vs Q E hr h => ?_)
  · obtain ⟨st, r, ob, ed, w, v1, v2, d1, d2, ins, eds, rfl, _⟩ := h; rfl
  · obtain ⟨st, r, ob, ed, w, v1, v2, d1, d2, ins, eds, rfl, hB, hK, hE, l60, q1, q⟩ := h
    refine ⟨_, pss_cons (ps_set (i := 2) scAs.nd rfl (.inl rfl) pe_non)
      (pss_cons (ps_try_tupA (i := 3) (tb := fun W => tAsg (tTup (tCons (tC (.str "told")) (tCons (tCallS (spDo K cB cBu cTE cNP cNG cBN cBL cTM cLO) (WE W) (tCons (tVar 0) (tCons (tVar 1) tNil))) tNil))) (gName 2)) (ts := fun a c d => tAsg (tCallS (spKi K (clE cNP cNG cBN cBL cTM cLO) a c d) (fun _ => E0) (tCons (tVar 3) tNil)) (gName 2)) (Wo := fun _ _ _ _ => False) scAs.nd rfl rfl rfl rfl ⟨rfl, by decide, Or.inl gVE⟩ ⟨rfl, by decide, Or.inl gNP⟩ ⟨rfl, by decide, Or.inl gNG⟩ takes0
        (fun W pn xe tk _ => pss_one (ps_set (i := 2) scAs.nd rfl (.inl rfl) (pe_tup (pa_cons pe_str (pa_cons (by exact (pe_callS GDo (hr.mono (by omega)) rfl gDo FDo.kp bDo (fun σ => passAt tk σ) (by exact (pa_cons (pv 0) (pa_cons (pv 1) pa_nil))))) pa_nil)))))
        (fun a oe cls d pn hz hf => pss_one (ps_set (i := 2) scAs.nd rfl (.inl rfl) (pe_callZ GKi List.mem_cons_self rfl hz hf ⟨(hr.mono (j := 2) (by omega)).dp, (hr.mono (j := 2) (by omega)).un⟩ (by rfl) gKi FKi.kp bKi (pa_cons (pv 3) pa_nil)))))
      (pss_one (ps_ret (pv 2)))), ?_⟩
    refine ⟨.ref ob, rfl, .ref ed, rfl, st, r, ob, ed, w, v1, v2, d1, d2, ins, eds, false, rfl, hB, hK, hE, ⟨fun (z : false = true) => absurd z (by decide), fun _ (h6 : eds.length = 60) => absurd h6 (by omega), fun _ h6 cp hcp H' s' => ?_, fun _ h6 hn H' hB' hK' x' => ?_⟩⟩
    · unfold FailW
      by_cases h0 : cp.2 = 0
      · rw [if_pos h0]
        refine ⟨true, XB.xs cp.1, fun _ a na => ?_, fun z => by cases z⟩
        exact ⟨.ref a, rfl, cp, v1, v2, rfl, (ef_err hE.w7 hcp).1 h0, fun H2 p s2 hp => ⟨_, rfl, q1 cp hcp H2 p (s'.trans s2) hp⟩⟩
      · rw [if_neg h0]
        intro dx nd
        refine ⟨true, XB.xs cp.1, fun _ a na => ?_, fun z => by cases z⟩
        exact ⟨.ref a, rfl, cp, v1, v2, rfl, (ef_err hE.w7 hcp).2 h0 dx upd_same, fun H2 p s2 hp => ⟨_, rfl, q1 cp hcp H2 p ((s'.trans (sameNew nd)).trans s2) hp⟩⟩
    · refine ⟨(show (2 : Nat) ≤ sizeLine by decide), fun T nT => ⟨_, rfl, ?_⟩⟩
      have sT := sameNew (o := .tup [V.str "told", V.int ((eds.length + 1 : Nat))]) nT
      exact q hn _ T (hB'.same sT hK'.to) hK' (x'.trans (Ex1.of sT)) (SqT.of upd_same)
end
end Pv
namespace Pv
open PySem PySem.Spec PyProof.Rows L2
/-! an object is made where its __init__ may let an error out -/
def tMakeW (C : Addr) (sp : Sp) (E : L2.St → XK) (t : TA) : TE := fun σ H Q => t σ H fun vs H1 => ∀ a dx, H1 a = none → H1 dx = none → dx ≠ a → sp (.ref a :: vs) (upd (upd H1 dx (.own a)) a (.ins C dx [])) (fun v H2 => v = .non ∧ Q (.ref a) H2) (E σ)
/-- several ways into one rest -/
theorem seq_w {t u : TS} {D : Ends} {σ : L2.St} {H : Hp} (Pre : L2.St → Hp → Prop) (rest : ∀ τ H1, Pre τ H1 → u D τ H1) (main : (∀ τ H1, Pre τ H1 → u D τ H1) → tSeq t u D σ H) : tSeq t u D σ H := main rest
section
variable {X : Cx} {CX : CXT} {k : Nat} {f C : Addr} {fd : FuncData} {ps : List Str} {sp : Sp} {E : L2.St → XK} {x : Str} {p pos : Pos} {e : Expr} {es : List Expr} {t : TA}
theorem pe_makeW (M : Mk X.K C f) (F : FnOk X.prog X.w X.K X.mg X.base CX k f fd ps sp) (hr : Room (k + 1) X.A) (hg : Gl X x) (hm : X.mg x = some (.ref C)) (hb : Binds X.K fd ps []) (hx : ∀ σ, PassesAt CX X σ (E σ)) (ha : PA X (e :: es) t)
    (hdb : (x == ("__debug__" : Str)) = false := by decide) (he : starEach (e :: es) X.env = (false, eval e X.env) :: starEach es X.env := by rfl) (hpl : (backTo pos (starEach es X.env)).any (·.1) = false := by rfl) : PE X (.Call (.Name x p) (e :: es) [] pos) (tMakeW C sp E t) := by
  refine ⟨fun pins s σ H Q I h => wpAny_Call_Name_kw (ld_glob I hg hm ?_ hdb)⟩
  refine PySem.W.callWith_K (h₀ := X.base) I.ok.mod.kin M.kp (thn (ha.run pos pins s σ H _ I h) fun us s1 ⟨vs, H1, I1, r, q⟩ => ⟨I1.kIn, ?_⟩) he hpl
  have hq := q (s1.heap.objs.size + 1) s1.heap.objs.size (I1.hok.fresh (Nat.le_succ _)) (I1.hok.fresh (Nat.le_refl _)) (Nat.ne_of_lt (Nat.lt_succ_self _))
  have J := Inv.made (C := C) I1
  have r2 : Vals (V.ref (s1.heap.objs.size + 1) :: vs) (Value.ref (s1.heap.objs.size + 1) :: us) := .cons rfl r
  have hl : (Value.ref (s1.heap.objs.size + 1) :: us).length = ps.length := by rw [← r2.length]; exact F.len _ _ _ _ hq
  have b := hb _ (Value.ref (s1.heap.objs.size + 1) :: us) J.kIn (by rw [List.append_nil]; exact hl)
  rw [List.append_nil] at b
  refine wpAny_call (make_map (f := f) I1.kIn M.makes M.init (beq_iff_eq.mp M.fn) (codeAny_mono (F.run _ X.stack _ _ ⟨Value.ref (s1.heap.objs.size + 1) :: us, []⟩ (Value.ref (s1.heap.objs.size + 1) :: us) _ _ (E σ) (hr.make C us []) (J.env0.make C us []) b r2 hq) fun o s' ho => ?_))
  cases o with
  | error z => exact hx σ pins _ _ z s' J ho
  | ok fl =>
    cases fl with
    | ret u =>
      obtain ⟨v, H', I3, rv, ev, q3⟩ := J.after ho
      subst ev
      exact ⟨rv, ⟨V.ref (s1.heap.objs.size + 1), H', I3, rfl, q3⟩⟩
    | next => exact ho.elim
    | brk => exact ho.elim
    | cont => exact ho.elim
end
end Pv
namespace Pv
open PySem PySem.Spec PyProof.Rows L2
abbrev sMd : Stmt := topS 94
theorem scMd : FnScope ["_law_value", "_law_error"] ["_law_value"] (defScope sMd) := ⟨rfl, rfl, rfl, by decide +kernel, rfl, by decide +kernel, by decide +kernel⟩
abbrev sGF : Stmt := topS 95
theorem scGF : FnScope ["_law_instance_here", "_law_group", "_law_item"] ["_law_instance_here", "_law_group", "_law_item"] (defScope sGF) := ⟨rfl, rfl, rfl, by decide +kernel, rfl, by decide +kernel, by decide +kernel⟩
abbrev sLF : Stmt := topS 96
theorem scLF : FnScope ["_law_value", "_law_post", "_law_capacity", "_law_group", "_law_item", "_law_fault_here"] ["_law_value"] (defScope sLF) := ⟨rfl, rfl, rfl, by decide +kernel, rfl, by decide +kernel, by decide +kernel⟩
theorem grps_of {R : Gp → Prop} : ∀ es : List PyData, (∀ e ∈ es, ∃ g : Gp, e = dGrp g ∧ R g) → ∃ gs : List Gp, es = gs.map dGrp ∧ ∀ g ∈ gs, R g
  | [], _ => ⟨[], rfl, fun g hg => by cases hg⟩
  | e :: es, h => by
    obtain ⟨gs, e1, h1⟩ := grps_of es fun x hx => h x (List.mem_cons_of_mem _ hx)
    obtain ⟨g, rfl, h2⟩ := h e (List.mem_cons_self ..)
    exact ⟨g :: gs, by rw [e1]; rfl, fun x hx => by rcases List.mem_cons.mp hx with rfl | hx; exact h2; exact h1 x hx⟩
theorem inst_some {d : PyData} (h : instE d = none) : ∃ y : Ins, d = dI2 y ∧ InOk y.1 y.2 := by
  unfold instE at h
  split at h
  case h_2 => cases h
  case h_1 a b =>
  cases hp : postsE a with
  | some e => rw [hp] at h; cases h
  | none =>
  rw [hp] at h
  have h : groupsE (((tupItems a).length : Nat) : Int) b = none := h
  obtain ⟨ds, rfl, l1, l6⟩ := postsE_ok hp
  have hf : firstErr capE 0 ds = none := by
    unfold postsE at hp
    rw [if_pos (show tupOfD 1 6 (.tuple ds) = true from decide_eq_true (by omega))] at hp
    exact hp
  have fe : ∀ {ge : Nat → PyData → Option PyData} {es : List PyData} {i : Nat}, firstErr ge i es = none → ∀ (j : Nat) (d : PyData), es[j]? = some d → ge (i + j) d = none := by
    intro ge es
    induction es with
    | nil => intro i _ j d hj; simp at hj
    | cons x es ih =>
      intro i hn j d hj
      unfold firstErr at hn
      cases hx : ge i x with
      | some e => rw [hx] at hn; cases hn
      | none =>
        rw [hx] at hn
        cases j with
        | zero => cases hj; exact hx
        | succ j =>
          have := ih (i := i + 1) hn j d hj
          rw [show i + 1 + j = i + (j + 1) by omega] at this
          exact this
  have hc : ds.all (withinD 1 bigI) = true := by
    rw [List.all_eq_true]
    intro d hd
    obtain ⟨j, hj⟩ := List.mem_iff_getElem?.mp hd
    have := fe hf j d hj
    unfold capE at this
    cases hw : withinD 1 bigI d with
    | true => rfl
    | false => rw [hw] at this; cases this
  obtain ⟨cs, rfl, hcs⟩ := within_ints hc
  unfold groupsE at h
  cases ht : tupOfD 1 10 b with
  | false => rw [ht] at h; cases h
  | true =>
  rw [ht] at h
  cases b with
  | none | bool _ | int _ | str _ | list _ | dict _ => simp [tupOfD] at ht
  | tuple es =>
  have le := of_decide_eq_true ht
  have hg : firstErr (grpE ((((tupItems (.tuple (cs.map PyData.int))).length : Nat) : Int))) 0 es = none := h
  have hg2 : firstErr (grpE ((cs.length : Nat) : Int)) 0 es = none := by
    have e : (tupItems (.tuple (cs.map PyData.int))).length = cs.length := List.length_map ..
    rw [e] at hg; exact hg
  have key : ∀ e ∈ es, ∃ g : Gp, e = dGrp g ∧ g.1.Nodup ∧ (∀ p ∈ g.1, 0 ≤ p ∧ p < (cs.length : Int)) ∧ 1 ≤ g.2 ∧ g.2 ≤ 10 ^ 12 := by
    intro e he
    obtain ⟨j, hj⟩ := List.mem_iff_getElem?.mp he
    have hx := fe hg2 j e hj
    unfold grpE at hx
    split at hx
    case h_2 => cases hx
    case h_1 a2 b2 =>
    cases h1 : listD ((cs.length : Nat) : Int) a2 with
    | false => rw [h1] at hx; cases hx
    | true =>
    cases h2 : withinD 1 bigI b2 with
    | false => rw [h1, h2] at hx; cases hx
    | true =>
    obtain ⟨row, rfl, _⟩ := list_ints h1
    obtain ⟨i, rfl, i1, i2⟩ := within_int h2
    have h1 : listD ((cs.length : Nat) : Int) (.tuple (row.map .int)) = true := h1
    rw [listD_ints, Bool.and_eq_true, List.all_eq_true] at h1
    exact ⟨(row, i), rfl, of_decide_eq_true h1.2, fun p hp => by have := of_decide_eq_true (h1.1 p hp); exact ⟨this.1, by have := this.2; omega⟩, i1, by unfold bigI at i2; omega⟩
  obtain ⟨gs, rfl, hgs⟩ := grps_of (R := fun g => g.1.Nodup ∧ (∀ p ∈ g.1, 0 ≤ p ∧ p < (cs.length : Int)) ∧ 1 ≤ g.2 ∧ g.2 ≤ 10 ^ 12) es key
  have le : 1 ≤ gs.length ∧ gs.length ≤ 10 := by rw [List.length_map] at le; omega
  rw [List.length_map] at l1 l6
  refine ⟨(cs, gs), rfl, ⟨l1, l6, fun c hcm => ?_, le.1, le.2, fun g hgm => ?_⟩, fun g hgm => (hgs g hgm).1⟩
  · have := of_decide_eq_true (List.all_eq_true.mp hcs c hcm)
    exact ⟨this.1, by have := this.2; unfold bigI at this; omega⟩
  · have h := hgs g hgm
    exact ⟨Nat.le_trans (ed_sub h.1 h.2.1) l6, h.2.1, h.2.2⟩
/-- no tuple in it has more than n items -/
def nars (n : Nat) : Nat → PyData → Prop
  | 0, _ => True
  | k + 1, d => ∀ ds, d = .tuple ds → ds.length ≤ n ∧ ∀ e ∈ ds, nars n k e
def Nar (n : Nat) (d : PyData) : Prop := ∀ k, nars n k d
theorem Nar.tup {n : Nat} {ds : List PyData} (h : ds.length ≤ n) (h2 : ∀ e ∈ ds, Nar n e) : Nar n (.tuple ds)
  | 0 => trivial
  | k + 1 => fun es e => by cases e; exact ⟨h, fun x hx => h2 x hx k⟩
theorem Nar.parts {n : Nat} {ds : List PyData} (h : Nar n (.tuple ds)) : ds.length ≤ n ∧ ∀ e ∈ ds, Nar n e := ⟨(h 1 ds rfl).1, fun e he k => (h (k + 1) ds rfl).2 e he⟩
theorem Nar.flat {n : Nat} {d : PyData} (h : ∀ ds, d ≠ .tuple ds) : Nar n d
  | 0 => trivial
  | k + 1 => fun ds e => absurd e (h ds)
theorem nars_mono {n m : Nat} (h : n ≤ m) : ∀ {k : Nat} {d : PyData}, nars n k d → nars m k d
  | 0, _, _ => trivial
  | k + 1, d, hd => fun ds e => ⟨Nat.le_trans (hd ds e).1 h, fun x hx => nars_mono h ((hd ds e).2 x hx)⟩
theorem Nar.mono {n m : Nat} {d : PyData} (h : Nar n d) (hm : n ≤ m) : Nar m d := fun k => nars_mono hm (h k)
theorem Nar.int {n : Nat} {i : Int} : Nar n (.int i) := .flat fun _ z => by cases z
theorem nar_ints {n : Nat} {l : List Int} (h : l.length ≤ n) : Nar n (dI l) := .tup (by rw [List.length_map]; exact h) fun e he => by obtain ⟨i, _, rfl⟩ := List.mem_map.mp he; exact .int
theorem nar_inst {x : Ins} (io : InOk x.1 x.2) : Nar 10 (dI2 x) := by
  have ok := io.ok
  have c6 := ok.c6
  have g10 := ok.g10
  refine .tup (show (2 : Nat) ≤ 10 by decide) fun e he => ?_
  simp only [List.mem_cons, List.not_mem_nil, or_false] at he
  rcases he with rfl | rfl
  · exact nar_ints (by omega)
  · refine .tup (by rw [List.length_map]; exact g10) fun e he => ?_
    obtain ⟨g, hg, rfl⟩ := List.mem_map.mp he
    have := (ok.gp g hg).1
    refine .tup (show (2 : Nat) ≤ 10 by decide) fun e he => ?_
    simp only [List.mem_cons, List.not_mem_nil, or_false] at he
    rcases he with rfl | rfl
    · exact nar_ints (by omega)
    · exact .int
def spMd (K : PySem.W.Frag) : Sp := fun vs H Q _ => ∃ (st r : Addr) (v : V) (d : PyData), vs = [v] ∧ Dq K st r H v d ∧ ∀ H' x, Same H H' → Dp K H' x (optD (instE d)) → Q x H'
def spIL2 (K : PySem.W.Frag) : Sp := fun vs H Q _ => ∃ (st r i ca : Addr) (ys cs : List V) (v : V) (d : PyData), vs = [.ref i, v] ∧ SqT K H i (.ref ca :: ys) ∧ SqT K H ca cs ∧ Dq K st r H v d ∧ (∀ ds, d = .tuple ds → ds.length ≤ 50) ∧ ∀ H', Same H H' → Q (.bl (listD cs.length d)) H'
def spGF (K : PySem.W.Frag) : Sp := fun vs H Q _ => ∃ (st r i ca : Addr) (ys cs : List V) (g : Nat) (v : V) (d : PyData), vs = [.ref i, .int (g : Nat), v] ∧ SqT K H i (.ref ca :: ys) ∧ SqT K H ca cs ∧ Dq K st r H v d ∧ Nar 50 d ∧ ∀ H' x, Same H H' → Dp K H' x (optD (grpE cs.length g d)) → Q x H'
def spLF (K : PySem.W.Frag) : Sp := fun vs H Q _ => ∃ (st r : Addr) (v : V) (d : PyData), vs = [v] ∧ Dq K st r H v d ∧ Nar 50 d ∧ ∀ H' x, Same H H' → Dp K H' x (optD (instE d)) → Q x H'
section
variable {P : Program} {w : World} {K : PySem.W.Frag} {mg : Str → Option Value} {base : Heap}
set_option maxHeartbeats 16000000 in
theorem ok_Md {f fBI cBI fiBI : Addr} {fd fdBI : FuncData} {cB : Addr} (T : BBx K mg cB) (F : Fun K "_law_made" "_law_made" sMd f fd)
    (FBI : Fun K "__init__" "Bench.__init__" sBI fBI fdBI) (bBI : Binds K fdBI ["self", "instance"] []) (mBI : Mk K cB fBI) (GBI : FnOk P w K mg base (L2.CX P w) 6 fBI fdBI ["self", "instance"] (spBI K cB cBI))
    (gBI : mg "BadInstance" = some (.ref cBI)) (XBI : XF2 K cBI fiBI "path" "reason") (x1 : PySem.W.exmOne K (.ref cBI) (.ref cBI) = some true) :
    FnOk P w K mg base CX0 8 f fd ["_law_value"] (spMd K) := by
  refine F.ok scMd (fun vs H Q E h => ?_) (fun cdv A outer s H vs Q E hr h => ?_)
  · obtain ⟨st, r, v, d, rfl, _⟩ := h; rfl
  · obtain ⟨st, r, v, d, rfl, hd, q⟩ := h
    refine ⟨_, pss_cons (ps_try_as (i := 1) (tb := fun W => tDrop (tMakeW cB (spBI K cB cBI) (WE W) (tCons (tVar 0) tNil))) (ts := fun a c e => tRet (tTup (tCons (tXf a c e cBI "path" (tVar 1)) (tCons (tXf a c e cBI "reason" (tVar 1)) tNil)))) (Wout := fun _ _ _ _ => False) rfl rfl scMd.nd rfl rfl ⟨rfl, by decide, Or.inl gBI⟩ takes0
        (fun W pn xe tk _ => pss_one (ps_expr (pe_makeW mBI GBI (hr.mono (by omega)) rfl T.mgC bBI (fun σ => passAt tk σ) (pa_cons (pv 0) pa_nil))))
        (fun a oe cls e pn hz hf => pss_one (ps_ret (pe_tup (pa_cons (pe_xf XBI.rd XBI.no1 hz hf (pv 1)) (pa_cons (pe_xf XBI.rd XBI.no2 hz hf (pv 1)) pa_nil))))))
      (pss_one (ps_ret pe_non)), ?_⟩
    refine ⟨v, rfl, fun x dx nx nd ne => ?_⟩
    have s1 := sameNew (o := .own x) nd
    have s2 := s1.trans (sameNew (o := .ins cB dx []) (H := upd H dx (.own x)) (by rw [upd_ne ne.symm]; exact nx))
    refine ⟨st, r, x, dx, v, d, rfl, upd_same, hd.lasts (.of s2), fun e1 e2 he H' a b dy ha hb s' ndy => ?_, fun he => ?_⟩
    · obtain ⟨pp, ss, ee⟩ := instE_err he
      cases ee
      refine ⟨true, x1, fun _ e ne => ?_, fun z => nomatch z⟩
      refine ⟨.ref e, rfl, rfl, rfl, dy, _, _, rfl, upd_same, rfl, .ref e, rfl, rfl, rfl, dy, _, _, rfl, upd_same, rfl, (show (2 : Nat) ≤ sizeLine by decide), fun p np => ?_⟩
      have sy := sameNew (o := .xd [("reason", b), ("path", a)]) ndy
      have sp := sy.trans (sameNew (o := .tup [a, b]) np)
      refine q _ (.ref p) ((s2.trans s').trans sp) ?_
      rw [he]
      exact .tup (SqT.of upd_same) (.cons ((TupK.of sp).dp _ _ (to_dI _) ha) (.cons ((TupK.of sp).dp _ _ rfl hb) .nil))
    · obtain ⟨y, rfl, io⟩ := inst_some he
      refine ⟨y, rfl, io, fun H' _ x' => ⟨rfl, ?_⟩⟩
      refine q H' .non (fun b o e => x' b o (s2 _ _ e) (ne_of_none e nx)) ?_
      rw [he]
      exact .non
set_option maxHeartbeats 16000000 in
theorem ok_IL2 {f fFr : Addr} {fd fdFr : FuncData} (F : Fun K "_law_is_list" "_law_is_list" sIL f fd)
    (FFr : Fun K "_law_from" "_law_from" sFr fFr fdFr) (bFr : Binds K fdFr ["_law_thing", "_law_low", "_law_high"] []) (gFr : mg "_law_from" = some (.ref fFr)) (GFr : FnOk P w K mg base CX0 1 fFr fdFr ["_law_thing", "_law_low", "_law_high"] (spInteg K))
    (m_tuple : mg "tuple" = none) (m_isinstance : mg "isinstance" = none) (m_len : mg "len" = none) (m_sorted : mg "sorted" = none) (m_set : mg "set" = none) :
    FnOk P w K mg base CX0 2 f fd ["_law_instance_here", "_law_value"] (spIL2 K) := by
  refine F.ok scIL (fun vs H Q E h => ?_) (fun cdv A outer s H vs Q E hr h => ?_)
  · obtain ⟨st, r, i, ca, ys, cs, v, d, rfl, _⟩ := h; rfl
  · obtain ⟨st, r, i, ca, ys, cs, v, d, rfl, hi, hc, hd, hn, q⟩ := h
    have hu64 : (A.deeper (envOfC "_law_is_list" (defScope sIL) s.heap.objs.size f cdv)).units + 64 < cLine := by have := hr.un; omega
    have hu0 : (A.deeper (envOfC "_law_is_list" (defScope sIL) s.heap.objs.size f cdv)).units < cLine := by have := hr.un; omega
    refine ⟨_, pss_cons (ps_if (pt_not (pt_val (pe_callB call_isi (by rfl) m_isinstance (by decide +kernel) (pa_cons (pv 1) (pa_cons (pe_bltn (v := .ty "tuple") (by rfl) m_tuple (by decide +kernel) rfl) pa_nil)))))
        (pss_one (ps_ret (pe_bl))) pss_nil)
      (pss_cons (ps_set (i := 2) scIL.nd rfl (.inr rfl) (pe_callB call_lenQ (by rfl) m_len PySem.boot_len (pa_cons (pe_ix ix_tup (pv 0) (pe_int) (fun _ _ => rfl)) pa_nil)))
      (pss_cons (ps_if (pt_cmpR (op_neNil hu0) (pe_lc (own := [("_law_post", 3)]) (g := gName 3) (tt := tNot (tB (tCall (spInteg K) [] E0 (tCons (tVar 3) (tCons (tC (.int 0)) (tCons (tOp (rI0 fun i j => .int (i - j)) (tVar 2) (tC (.int 1))) tNil)))))) (te := tVar 3) rfl scIL.nd (pi_tup (pv 1)) (blkOk_by (N := ["_law_instance_here", "_law_value", "_law_many", "_law_post"]) (sc := defScope sIL) (by decide +kernel)) (fun _ _ _ _ _ => pg_name (i := 3) scIL.nd rfl (.inl rfl)) (fun _ _ _ _ _ => pts_one (pt_not (pt_val (pe_call GFr (hr.mono (by omega)) (by rfl) gFr FFr.kp bFr .nil pass0 (pa_cons (pv 3) (pa_cons (pe_int) (pa_cons (pe_op op_sub (pv 2) (pe_int)) pa_nil))))))) (fun _ _ _ _ _ => pv 3)) (pe_lst (pa_nil)) (nomark _))
        (pss_one (ps_ret (pe_bl))) pss_nil)
      (pss_one (ps_ret (pe_cmpR (op_eqD hu64) (pe_callB cr_sortedT (by rfl) m_sorted (by decide +kernel) (pa_cons (pv 1) pa_nil)) (pe_callB (cr_sortedSet rfl) (by rfl) m_sorted (by decide +kernel) (pa_cons (pe_callTy (cr_setT rfl) (by rfl) m_set (by decide +kernel) (pa_cons (pv 1) pa_nil)) pa_nil)) (nomark _)))))), ?_⟩
    refine ⟨v, rfl, v, .ty "tuple", _, _, _, rfl, .ty _, hd.ty, kit_tup d, _, rfl, ?_⟩
    cases d with
    | none => exact iteT (q _ (Same.refl _))
    | bool _ => exact iteT (q _ (Same.refl _))
    | int _ => exact iteT (q _ (Same.refl _))
    | str _ => exact iteT (q _ (Same.refl _))
    | list _ => exact iteT (q _ (Same.refl _))
    | dict _ => exact iteT (q _ (Same.refl _))
    | tuple ds =>
    cases hd with
    | @tup a xs _ hT ha =>
    have hl := DqAll.len ha
    have hlen : ds.length ≤ 50 := hn _ rfl
    refine iteF ⟨.ref i, rfl, i, _, 0, .ref ca, rfl, rfl, hi, atI_nat (j := 0) rfl, ca, _, rfl, .inr hc, ?_⟩
    refine ⟨.ref a, rfl, a, rfl, ⟨_, hT⟩, fun D nD => lc_it (walk_tup (K := K) (a := a) (xs := xs))
      (fun i H2 => Same H H2 ∧ ∃ zs : List V, H2 D = some (.lst zs) ∧ zs.length ≤ i ∧ zs.isEmpty = (ds.take i).all (withinD 0 ((cs.length : Nat) - 1 : Int))) ⟨sameNew nD, [], upd_same, Nat.le_refl _, rfl⟩ (fun i H2 _ h2 => (TupK.of h2.1).sq hT) ?_ ?_⟩
    · rintro i x H2 H3 hi2 ⟨s2, zs, e2, hz, hem⟩ ⟨rfl, hx⟩
      obtain ⟨dx, hdx, hxd⟩ := DqAll.at ha hx
      have hil : i < ds.length := (List.getElem?_eq_some_iff.mp hdx).1
      have hsnoc : (ds.take (i + 1)).all (withinD 0 ((cs.length : Nat) - 1 : Int)) = ((ds.take i).all (withinD 0 ((cs.length : Nat) - 1 : Int)) && withinD 0 ((cs.length : Nat) - 1 : Int) dx) := by rw [take_snoc hdx, List.all_append]; simp
      refine ⟨rfl, x, rfl, _, rfl, _, _, rfl, rfl, st, r, x, dx, 0, ((cs.length : Nat) - 1 : Int), rfl, hxd.lasts (.of s2), _, rfl, ite2 (fun h3 => ?_) (fun h3 => ?_)⟩
      · refine ⟨x, rfl, _, e2, small (by omega), samePut s2 nD, zs ++ [x], upd_same, by simp; omega, ?_⟩
        have h4 : withinD 0 ((cs.length : Nat) - 1 : Int) dx = false := by simpa using h3
        rw [hsnoc, h4, Bool.and_false]; simp
      · have h4 : withinD 0 ((cs.length : Nat) - 1 : Int) dx = true := by simpa using h3
        refine ⟨s2, zs, e2, by omega, ?_⟩
        rw [hsnoc, h4, Bool.and_true]; exact hem
    · rintro H2 ⟨s2, zs, e2, hz, hem⟩
      rw [hl, List.take_length] at hem
      refine ⟨Nat.zero_le _, fun p np => ⟨D, p, zs, rfl, rfl, SqL.of (upNew np e2), SqL.of upd_same, _, rfl, ?_⟩⟩
      have s3 := s2.trans (sameNew (o := .lst []) np)
      rw [hem]
      cases hall : ds.all (withinD 0 ((cs.length : Nat) - 1 : Int)) with
      | false =>
        refine iteT ?_
        have := q _ s3
        rw [listD_out hall] at this
        exact this
      | true =>
        refine iteF ?_
        obtain ⟨row, er, hrow⟩ := within_ints hall
        subst er
        have hxs := DpAll.ints (DqAll.to_dp (to_ints row) ha)
        subst hxs
        rw [List.length_map] at hlen
        refine ⟨.ref a, rfl, a, row, rfl, (TupK.of s3).sq hT, by omega, fun ns' p1 hp hs n1 => ?_⟩
        have s4 := s3.trans (sameNew (o := .lst (ns'.map V.int)) n1)
        refine ⟨.ref a, rfl, a, row, rfl, (TupK.of s4).sq hT, by omega, fun p2 c n2 _ hc => ⟨p2, _, c, rfl, upd_same, by omega, fun ms p3 hm hmem hml n3 => ?_⟩⟩
        have e1 := upNew (o := .lst (ms.map V.int)) n3 (upNew (o := SetO w p2 (fun j => decide (j ∈ row)) c) n2 (upd_same (H := upd H2 p (.lst [])) (a := p1) (o := .lst (ns'.map V.int))))
        refine ⟨.list (ns'.map PyData.int), .list (ms.map PyData.int), .lst (SqL.of e1) (dp_ints ns'), .lst (SqL.of upd_same) (dp_ints ms), shaped_intsQ, shaped_intsQ, ?_⟩
        have e : listD ((cs.length : Nat) : Int) (.tuple (row.map PyData.int)) = PyData.eqv (.list (ns'.map PyData.int)) (.list (ms.map PyData.int)) := by
          rw [listD_ints, hrow, Bool.true_and, eqv_intsQ]
          have := sort_nodup hp hs hm (fun k => by rw [hmem k]; simp)
          exact decide_eq_decide.mpr this.symm
        have := q _ ((s4.trans (sameNew (o := SetO w p2 (fun j => decide (j ∈ row)) c) n2)).trans (sameNew (o := .lst (ms.map V.int)) n3))
        rw [e] at this
        exact this
set_option maxHeartbeats 16000000 in
theorem ok_GF {f fIL2 fFr : Addr} {fd fdIL2 fdFr : FuncData} (F : Fun K "_law_group_fault" "_law_group_fault" sGF f fd)
    (FIL2 : Fun K "_law_is_list" "_law_is_list" sIL fIL2 fdIL2) (bIL2 : Binds K fdIL2 ["_law_instance_here", "_law_value"] []) (gIL2 : mg "_law_is_list" = some (.ref fIL2)) (GIL2 : FnOk P w K mg base CX0 2 fIL2 fdIL2 ["_law_instance_here", "_law_value"] (spIL2 K))
    (FFr : Fun K "_law_from" "_law_from" sFr fFr fdFr) (bFr : Binds K fdFr ["_law_thing", "_law_low", "_law_high"] []) (gFr : mg "_law_from" = some (.ref fFr)) (GFr : FnOk P w K mg base CX0 1 fFr fdFr ["_law_thing", "_law_low", "_law_high"] (spInteg K))
    (m_tuple : mg "tuple" = none) (m_isinstance : mg "isinstance" = none) (m_len : mg "len" = none) (m_int : mg "int" = none) :
    FnOk P w K mg base CX0 3 f fd ["_law_instance_here", "_law_group", "_law_item"] (spGF K) := by
  refine F.ok scGF (fun vs H Q E h => ?_) (fun cdv A outer s H vs Q E hr h => ?_)
  · obtain ⟨st, r, i, ca, ys, cs, g, v, d, rfl, _⟩ := h; rfl
  · obtain ⟨st, r, i, ca, ys, cs, g, v, d, rfl, hi, hc, hd, hn, q⟩ := h
    refine ⟨_, pss_cons (ps_if (PW.pt (pw_or (pt_not (pt_val (pe_callB call_isi (by rfl) m_isinstance (by decide +kernel) (pa_cons (pv 2) (pa_cons (pe_bltn (v := .ty "tuple") (by rfl) m_tuple (by decide +kernel) rfl) pa_nil))))) (pw_or1 (pt_cmpR op_ne (pe_callB call_lenQ (by rfl) m_len PySem.boot_len (pa_cons (pv 2) pa_nil)) (pe_int) (nomark _)))))
        (pss_one (ps_ret (pe_tup (pa_cons (pe_tup (pa_cons (pe_int) (pa_cons (pv 1) pa_nil))) (pa_cons (pe_str) pa_nil))))) pss_nil)
      (pss_cons (ps_if (pt_not (pt_val (pe_call GIL2 (hr.mono (by omega)) (by rfl) gIL2 FIL2.kp bIL2 .nil pass0 (pa_cons (pv 0) (pa_cons (pe_ix ix_tup (pv 2) (pe_int) (fun _ _ => rfl)) pa_nil)))))
        (pss_one (ps_ret (pe_tup (pa_cons (pe_tup (pa_cons (pe_int) (pa_cons (pv 1) (pa_cons (pe_int) pa_nil)))) (pa_cons (pe_str) pa_nil))))) pss_nil)
      (pss_one (ps_ret (pe_ix ix_list (pe_lst (pa_cons (pe_tup (pa_cons (pe_tup (pa_cons (pe_int) (pa_cons (pv 1) (pa_cons (pe_int) pa_nil)))) (pa_cons (pe_str) pa_nil))) (pa_cons (pe_non) pa_nil))) (pe_callTy call_int1 (by rfl) m_int (by decide +kernel) (pa_cons (pe_call GFr (hr.mono (by omega)) (by rfl) gFr FFr.kp bFr .nil pass0 (pa_cons (pe_ix ix_tup (pv 2) (pe_int) (fun _ _ => rfl)) (pa_cons (pe_int) (pa_cons (pe_op op_pow (pe_int) (pe_int)) pa_nil)))) pa_nil)) (fun _ _ => rfl))))), ?_⟩
    refine ⟨v, rfl, v, .ty "tuple", _, _, _, rfl, .ty _, hd.ty, kit_tup d, _, rfl, ?_⟩
    have bad : tupOfD 2 2 d = false → ∀ p1 p2, H p1 = none → upd H p1 (.tup [.int 1, .int (g : Nat)]) p2 = none → Q (.ref p2) (upd (upd H p1 (.tup [.int 1, .int (g : Nat)])) p2 (.tup [.ref p1, .str "group"])) := by
      intro hb p1 p2 n1 n2
      obtain ⟨s2, h2⟩ := err_fin (K := K) [1, (g : Int)] "group" n1 n2
      refine q _ _ s2 ?_
      rw [grpE_not hb]
      exact h2
    cases d with
    | none => exact iteT (iteT ⟨_, rfl, (show (2 : Nat) ≤ sizeLine by decide), fun p1 n1 => ⟨(show (2 : Nat) ≤ sizeLine by decide), fun p2 n2 => bad rfl p1 p2 n1 n2⟩⟩)
    | bool _ => exact iteT (iteT ⟨_, rfl, (show (2 : Nat) ≤ sizeLine by decide), fun p1 n1 => ⟨(show (2 : Nat) ≤ sizeLine by decide), fun p2 n2 => bad rfl p1 p2 n1 n2⟩⟩)
    | int _ => exact iteT (iteT ⟨_, rfl, (show (2 : Nat) ≤ sizeLine by decide), fun p1 n1 => ⟨(show (2 : Nat) ≤ sizeLine by decide), fun p2 n2 => bad rfl p1 p2 n1 n2⟩⟩)
    | str _ => exact iteT (iteT ⟨_, rfl, (show (2 : Nat) ≤ sizeLine by decide), fun p1 n1 => ⟨(show (2 : Nat) ≤ sizeLine by decide), fun p2 n2 => bad rfl p1 p2 n1 n2⟩⟩)
    | list _ => exact iteT (iteT ⟨_, rfl, (show (2 : Nat) ≤ sizeLine by decide), fun p1 n1 => ⟨(show (2 : Nat) ≤ sizeLine by decide), fun p2 n2 => bad rfl p1 p2 n1 n2⟩⟩)
    | dict _ => exact iteT (iteT ⟨_, rfl, (show (2 : Nat) ≤ sizeLine by decide), fun p1 n1 => ⟨(show (2 : Nat) ≤ sizeLine by decide), fun p2 n2 => bad rfl p1 p2 n1 n2⟩⟩)
    | tuple ds =>
    cases hd with
    | @tup a xs _ hT ha =>
    have hl := DqAll.len ha
    refine iteF ⟨.ref a, rfl, a, xs, rfl, .inr hT, rfl, _, rfl, ?_⟩
    cases ht : tupOfD 2 2 (.tuple ds) with
    | false =>
      have hne : ¬ ds.length = 2 := fun z => by rw [show tupOfD 2 2 (.tuple ds) = true from decide_eq_true (by omega)] at ht; cases ht
      have hb2 : (!decide (V.int (xs.length : Nat) = V.int 2)) = true := by
        rw [decide_eq_false (fun z => hne (by have := V.int.inj z; omega))]; rfl
      exact ite_t hb2 ⟨_, rfl, (show (2 : Nat) ≤ sizeLine by decide), fun p1 n1 => ⟨(show (2 : Nat) ≤ sizeLine by decide), fun p2 n2 => bad ht p1 p2 n1 n2⟩⟩
    | true =>
    obtain ⟨d0, d1, rfl⟩ := two_of ht
    cases ha with
    | @cons x0 _ _ _ h0 ha =>
    cases ha with
    | @cons x1 _ _ _ h1 ha =>
    cases ha
    refine ite_f (show (!decide (V.int (([x0, x1] : List V).length : Nat) = V.int 2)) = false by rw [decide_eq_true (show V.int (([x0, x1] : List V).length : Nat) = V.int 2 from rfl)]; rfl) ?_
    refine ⟨.ref i, rfl, .ref a, rfl, a, _, 0, x0, rfl, rfl, hT, atI_nat (j := 0) rfl, st, r, i, ca, ys, cs, x0, d0, rfl, hi, hc, h0, fun es e => (((hn.parts).2 _ (List.mem_cons_self ..)) 1 es e).1, fun H1 s1 => ⟨_, rfl, ?_⟩⟩
    cases hL : listD ((cs.length : Nat) : Int) d0 with
    | false =>
      refine iteT ⟨_, rfl, (show (3 : Nat) ≤ sizeLine by decide), fun p1 n1 => ⟨(show (2 : Nat) ≤ sizeLine by decide), fun p2 n2 => ?_⟩⟩
      obtain ⟨s2, h2⟩ := err_fin (K := K) [1, (g : Int), 0] "list" n1 n2
      refine q _ _ (s1.trans s2) ?_
      rw [show grpE (cs.length : Nat) g (.tuple [d0, d1]) = some (err [1, (g : Int), 0] "list") by unfold grpE; simp only [hL]; rfl]
      exact h2
    | true =>
    refine iteF ⟨_, rfl, (show (3 : Nat) ≤ sizeLine by decide), fun p1 n1 => ⟨(show (2 : Nat) ≤ sizeLine by decide), fun p2 n2 => ⟨(show (2 : Nat) ≤ sizeLine by decide), fun L nL => ?_⟩⟩⟩
    obtain ⟨s2, h2⟩ := err_fin (K := K) [1, (g : Int), 1] "count" n1 n2
    have s3 := s2.trans (sameNew (o := .lst [V.ref p2, V.non]) nL)
    have hT3 := (TupK.of (s1.trans s3)).sq hT
    have h13 := h1.lasts (Lasts.of (s1.trans s3))
    refine ⟨.ref a, rfl, a, _, 1, x1, rfl, rfl, hT3, atI_nat (j := 1) rfl, _, _, rfl, rfl, ⟨by decide, by decide, by decide⟩, st, r, x1, d1, 1, _, rfl, h13, .inr ⟨_, rfl, ?_⟩⟩
    rw [show ((10 : Int) ^ (12 : Int).toNat) = bigI by decide]
    cases hw : withinD 1 bigI d1 with
    | false =>
      refine ⟨L, _, 0, .ref p2, rfl, rfl, SqL.of upd_same, rfl, q _ _ (s1.trans s3) ?_⟩
      rw [show grpE (cs.length : Nat) g (.tuple [d0, d1]) = some (err [1, (g : Int), 1] "count") by unfold grpE; simp only [hL, hw]; rfl]
      exact (TupK.of (sameNew nL)).dp _ _ rfl h2
    | true =>
      refine ⟨L, _, 1, .non, rfl, rfl, SqL.of upd_same, rfl, q _ _ (s1.trans s3) ?_⟩
      rw [show grpE (cs.length : Nat) g (.tuple [d0, d1]) = none by unfold grpE; simp only [hL, hw]; rfl]
      exact .non
theorem grpE_nn {n : Int} {i : Nat} {d : PyData} {H : Hp} {x : V} (h : Dp K H x (optD (grpE n i d))) : (x = .non ∧ grpE n i d = none) ∨ (∃ e a, grpE n i d = some e ∧ x = .ref a) := by
  cases he : grpE n i d with
  | none =>
    rw [he] at h
    have h' : Dp K H x .none := h
    cases h'
    exact .inl ⟨rfl, rfl⟩
  | some e =>
    rw [he] at h
    obtain ⟨p, s, rfl⟩ := grpE_err n i d e he
    obtain ⟨a, rfl⟩ := err_ref (show Dp K H x (err p s) from h)
    exact .inr ⟨_, a, rfl, rfl⟩
set_option maxHeartbeats 16000000 in
theorem ok_LF {f fFr fGF : Addr} {fd fdFr fdGF : FuncData} (F : Fun K "_law_fault" "_law_fault" sLF f fd)
    (FFr : Fun K "_law_from" "_law_from" sFr fFr fdFr) (bFr : Binds K fdFr ["_law_thing", "_law_low", "_law_high"] []) (gFr : mg "_law_from" = some (.ref fFr)) (GFr : FnOk P w K mg base CX0 1 fFr fdFr ["_law_thing", "_law_low", "_law_high"] (spInteg K))
    (FGF : Fun K "_law_group_fault" "_law_group_fault" sGF fGF fdGF) (bGF : Binds K fdGF ["_law_instance_here", "_law_group", "_law_item"] []) (gGF : mg "_law_group_fault" = some (.ref fGF)) (GGF : FnOk P w K mg base CX0 3 fGF fdGF ["_law_instance_here", "_law_group", "_law_item"] (spGF K))
    (m_tuple : mg "tuple" = none) (m_isinstance : mg "isinstance" = none) (m_len : mg "len" = none) (m_enumerate : mg "enumerate" = none) :
    FnOk P w K mg base CX0 4 f fd ["_law_value"] (spLF K) := by
  refine F.ok scLF (fun vs H Q E h => ?_) (fun cdv A outer s H vs Q E hr h => ?_)
  · obtain ⟨st, r, v, d, rfl, _⟩ := h; rfl
  · obtain ⟨st, r, v, d, rfl, hd, hn, q⟩ := h
    refine ⟨_, pss_cons (ps_if (PW.pt (pw_or (pt_not (pt_val (pe_callB call_isi (by rfl) m_isinstance (by decide +kernel) (pa_cons (pv 0) (pa_cons (pe_bltn (v := .ty "tuple") (by rfl) m_tuple (by decide +kernel) rfl) pa_nil))))) (pw_or1 (pt_cmpR op_ne (pe_callB call_lenQ (by rfl) m_len PySem.boot_len (pa_cons (pv 0) pa_nil)) (pe_int) (nomark _)))))
        (pss_one (ps_ret (pe_tup (pa_cons (pe_tup (pa_nil)) (pa_cons (pe_str) pa_nil))))) pss_nil)
      (pss_cons (ps_if (PW.pt (pw_or (pt_not (pt_val (pe_callB call_isi (by rfl) m_isinstance (by decide +kernel) (pa_cons (pe_ix ix_tup (pv 0) (pe_int) (fun _ _ => rfl)) (pa_cons (pe_bltn (v := .ty "tuple") (by rfl) m_tuple (by decide +kernel) rfl) pa_nil))))) (pw_or1 (pt_not (pt_chain op_le op_le (pe_int) (pe_callB call_lenQ (by rfl) m_len PySem.boot_len (pa_cons (pe_ix ix_tup (pv 0) (pe_int) (fun _ _ => rfl)) pa_nil)) (pe_int))))))
        (pss_one (ps_ret (pe_tup (pa_cons (pe_tup (pa_cons (pe_int) pa_nil)) (pa_cons (pe_str) pa_nil))))) pss_nil)
      (pss_cons (ps_for PassesOwn.never rfl (pi_enumT (by rfl) m_enumerate (pa_cons (pe_ix ix_tup (pv 0) (pe_int) (fun _ _ => rfl)) pa_nil)) (pg_tup rfl (pgs_cons (pg_name (i := 1) scLF.nd rfl (.inl rfl)) (pgs_cons (pg_name (i := 2) scLF.nd rfl (.inl rfl)) pgs_nil)))
        (pss_one (ps_if (pt_not (pt_val (pe_call GFr (hr.mono (by omega)) (by rfl) gFr FFr.kp bFr .nil pass0 (pa_cons (pv 2) (pa_cons (pe_int) (pa_cons (pe_op op_pow (pe_int) (pe_int)) pa_nil))))))
          (pss_one (ps_ret (pe_tup (pa_cons (pe_tup (pa_cons (pe_int) (pa_cons (pv 1) pa_nil))) (pa_cons (pe_str) pa_nil))))) pss_nil)))
      (pss_cons (ps_if (PW.pt (pw_or (pt_not (pt_val (pe_callB call_isi (by rfl) m_isinstance (by decide +kernel) (pa_cons (pe_ix ix_tup (pv 0) (pe_int) (fun _ _ => rfl)) (pa_cons (pe_bltn (v := .ty "tuple") (by rfl) m_tuple (by decide +kernel) rfl) pa_nil))))) (pw_or1 (pt_not (pt_chain op_le op_le (pe_int) (pe_callB call_lenQ (by rfl) m_len PySem.boot_len (pa_cons (pe_ix ix_tup (pv 0) (pe_int) (fun _ _ => rfl)) pa_nil)) (pe_int))))))
        (pss_one (ps_ret (pe_tup (pa_cons (pe_tup (pa_cons (pe_int) pa_nil)) (pa_cons (pe_str) pa_nil))))) pss_nil)
      (pss_cons (ps_for PassesOwn.never rfl (pi_enumT (by rfl) m_enumerate (pa_cons (pe_ix ix_tup (pv 0) (pe_int) (fun _ _ => rfl)) pa_nil)) (pg_tup rfl (pgs_cons (pg_name (i := 3) scLF.nd rfl (.inl rfl)) (pgs_cons (pg_name (i := 4) scLF.nd rfl (.inl rfl)) pgs_nil)))
        (pss_cons (ps_set (i := 5) scLF.nd rfl (.inl rfl) (pe_call GGF (hr.mono (by omega)) (by rfl) gGF FGF.kp bGF .nil pass0 (pa_cons (pv 0) (pa_cons (pv 3) (pa_cons (pv 4) pa_nil)))))
        (pss_one (ps_if (pt_cmp (pc_notN (pv 5)))
          (pss_one (ps_ret (pv 5))) pss_nil))))
      (pss_one (ps_ret (pe_non))))))), ?_⟩
    have bad0 : instE d = some (err [] "instance") → ∀ (p1 p2 : Addr) (n1 : H p1 = none) (n2 : upd H p1 (.tup (([] : List Int).map V.int)) p2 = none), Q (.ref p2) (upd (upd H p1 (.tup (([] : List Int).map V.int))) p2 (.tup [.ref p1, .str "instance"])) := by
      intro hb p1 p2 n1 n2
      obtain ⟨s1, h1⟩ := err_fin (K := K) [] "instance" n1 n2
      refine q _ _ s1 ?_
      rw [hb]
      exact h1
    refine ⟨v, rfl, v, .ty "tuple", _, _, _, rfl, .ty _, hd.ty, kit_tup d, _, rfl, ?_⟩
    cases d with
    | none => exact iteT (iteT ⟨Nat.zero_le _, fun p1 n1 => ⟨(show (2 : Nat) ≤ sizeLine by decide), fun p2 n2 => bad0 rfl p1 p2 n1 n2⟩⟩)
    | bool _ => exact iteT (iteT ⟨Nat.zero_le _, fun p1 n1 => ⟨(show (2 : Nat) ≤ sizeLine by decide), fun p2 n2 => bad0 rfl p1 p2 n1 n2⟩⟩)
    | int _ => exact iteT (iteT ⟨Nat.zero_le _, fun p1 n1 => ⟨(show (2 : Nat) ≤ sizeLine by decide), fun p2 n2 => bad0 rfl p1 p2 n1 n2⟩⟩)
    | str _ => exact iteT (iteT ⟨Nat.zero_le _, fun p1 n1 => ⟨(show (2 : Nat) ≤ sizeLine by decide), fun p2 n2 => bad0 rfl p1 p2 n1 n2⟩⟩)
    | list _ => exact iteT (iteT ⟨Nat.zero_le _, fun p1 n1 => ⟨(show (2 : Nat) ≤ sizeLine by decide), fun p2 n2 => bad0 rfl p1 p2 n1 n2⟩⟩)
    | dict _ => exact iteT (iteT ⟨Nat.zero_le _, fun p1 n1 => ⟨(show (2 : Nat) ≤ sizeLine by decide), fun p2 n2 => bad0 rfl p1 p2 n1 n2⟩⟩)
    | tuple es =>
    cases hd with
    | @tup ga zs _ hg hz =>
    have hl := DqAll.len hz
    refine iteF ⟨.ref ga, rfl, ga, zs, rfl, .inr hg, rfl, _, rfl, ite2 (fun h1 => ?_) (fun h1 => ?_)⟩
    · refine ⟨Nat.zero_le _, fun p1 n1 => ⟨(show (2 : Nat) ≤ sizeLine by decide), fun p2 n2 => bad0 ?_ p1 p2 n1 n2⟩⟩
      have hne : es.length ≠ 2 := by
        intro z
        have h2 : zs.length = 2 := by omega
        rw [h2] at h1
        simp at h1
      unfold instE
      split
      · rename_i heq
        cases heq
        exact absurd rfl hne
      · rfl
    have hes : tupOfD 2 2 (.tuple es) = true := by
      refine decide_eq_true ?_
      have h2 : zs.length = 2 := by
        have h3 : ¬ (!decide (V.int (zs.length : Int) = V.int 2)) = true := h1
        have h4 : V.int (zs.length : Int) = V.int 2 := by simpa using h3
        have h5 := V.int.inj h4
        omega
      omega
    obtain ⟨da, db, rfl⟩ := two_of hes
    cases hz with
    | @cons va _ _ _ hva hz =>
    cases hz with
    | @cons vb _ _ _ hvb hz =>
    cases hz
    have hn2 := hn.parts
    -- the posts
    have badP : tupOfD 1 6 da = false → ∀ (p1 p2 : Addr) (n1 : H p1 = none) (n2 : upd H p1 (.tup ([0].map V.int)) p2 = none), Q (.ref p2) (upd (upd H p1 (.tup ([0].map V.int))) p2 (.tup [.ref p1, .str "posts"])) := by
      intro hb p1 p2 n1 n2
      obtain ⟨s1, h1⟩ := err_fin (K := K) [0] "posts" n1 n2
      refine q _ _ s1 ?_
      rw [instE_pair, show postsE da = some (err [0] "posts") by unfold postsE; rw [hb]; rfl]
      exact h1
    refine ⟨.ref ga, rfl, ga, _, 0, va, rfl, rfl, hg, atI_nat (j := 0) rfl, va, .ty "tuple", _, _, _, rfl, .ty _, hva.ty, kit_tup da, _, rfl, ?_⟩
    cases da with
    | none => exact iteT (iteT ⟨by decide, fun p1 n1 => ⟨(show (2 : Nat) ≤ sizeLine by decide), fun p2 n2 => badP rfl p1 p2 n1 n2⟩⟩)
    | bool _ => exact iteT (iteT ⟨by decide, fun p1 n1 => ⟨(show (2 : Nat) ≤ sizeLine by decide), fun p2 n2 => badP rfl p1 p2 n1 n2⟩⟩)
    | int _ => exact iteT (iteT ⟨by decide, fun p1 n1 => ⟨(show (2 : Nat) ≤ sizeLine by decide), fun p2 n2 => badP rfl p1 p2 n1 n2⟩⟩)
    | str _ => exact iteT (iteT ⟨by decide, fun p1 n1 => ⟨(show (2 : Nat) ≤ sizeLine by decide), fun p2 n2 => badP rfl p1 p2 n1 n2⟩⟩)
    | list _ => exact iteT (iteT ⟨by decide, fun p1 n1 => ⟨(show (2 : Nat) ≤ sizeLine by decide), fun p2 n2 => badP rfl p1 p2 n1 n2⟩⟩)
    | dict _ => exact iteT (iteT ⟨by decide, fun p1 n1 => ⟨(show (2 : Nat) ≤ sizeLine by decide), fun p2 n2 => badP rfl p1 p2 n1 n2⟩⟩)
    | tuple ds =>
    cases hva with
    | @tup pa xs _ hT ha =>
    have hlx := DqAll.len ha
    refine iteF ⟨.ref ga, rfl, ga, _, 0, .ref pa, rfl, rfl, hg, atI_nat (j := 0) rfl, pa, xs, rfl, .inr hT, _, _, rfl, rfl, _, rfl, ite2 (fun h2 => ⟨_, _, rfl, rfl, _, rfl, ite2 (fun h3 => ?_) (fun h3 => ?_)⟩) (fun h2 => ⟨_, rfl, iteT ?_⟩)⟩
    · refine ⟨by decide, fun p1 n1 => ⟨(show (2 : Nat) ≤ sizeLine by decide), fun p2 n2 => badP ?_ p1 p2 n1 n2⟩⟩
      refine decide_eq_false (fun z => ?_)
      have h4 : decide ((xs.length : Int) ≤ 6) = true := decide_eq_true (by omega)
      rw [h4] at h3
      exact absurd h3 (by decide)
    case refine_3 =>
      refine ⟨by decide, fun p1 n1 => ⟨(show (2 : Nat) ≤ sizeLine by decide), fun p2 n2 => badP ?_ p1 p2 n1 n2⟩⟩
      refine decide_eq_false (fun z => ?_)
      exact h2 (decide_eq_true (by omega))
    have h6 : xs.length ≤ 6 := by
      have h4 : ¬ (!decide ((xs.length : Int) ≤ 6)) = true := h3
      have h5 : (xs.length : Int) ≤ 6 := by simpa using h4
      omega
    have h16 : tupOfD 1 6 (.tuple ds) = true := decide_eq_true ⟨by have := of_decide_eq_true h2; omega, by omega⟩
    have hPE : postsE (.tuple ds) = firstErr capE 0 ds := by unfold postsE; rw [h16]; rfl
    refine ⟨.ref ga, rfl, ga, _, 0, .ref pa, rfl, rfl, hg, atI_nat (j := 0) rfl, pa, xs, rfl, hT, for_it (walk_enumT (K := K) (a := pa) (xs := xs))
      (fun j σ H2 => ∃ y1 y2, σ = [some (.ref ga), y1, y2, none, none, none] ∧ Same H H2 ∧ ∀ m, m < j → ∀ d', ds[m]? = some d' → capE (0 + m) d' = none)
      ⟨none, none, rfl, Same.refl _, fun m hm => absurd hm (Nat.not_lt_zero _)⟩ ?_ ?_ ?_⟩
    · rintro j σ H2 _ ⟨y1, y2, rfl, s2, _⟩
      exact (TupK.of s2).sq hT
    · rintro j v σ H2 H3 hlt ⟨y1, y2, rfl, s2, hpre⟩ ⟨T, x, y, rfl, nT, rfl, hx, hy⟩
      have hx' : some (V.int (j : Nat)) = some x := hx
      cases hx'
      have hy' : xs[j]? = some y := hy
      obtain ⟨dy, hdy, hyd⟩ := DqAll.at ha hy'
      have s3 : Same H (upd H2 T (.tup [.int (j : Nat), y])) := s2.trans (sameNew nT)
      refine ⟨T, _, rfl, SqT.of upd_same, rfl, _, _, rfl, _, _, rfl, rfl, y, rfl, _, _, rfl, rfl, ⟨by decide, by decide, by decide⟩, st, r, y, dy, _, _, rfl, hyd.lasts (.of s3), ?_⟩
      rw [show (10 : Int) ^ (12 : Int).toNat = bigI by decide]
      cases hw : withinD 1 bigI dy with
      | false =>
        refine ⟨_, rfl, iteT ⟨.int (j : Nat), rfl, (show (2 : Nat) ≤ sizeLine by decide), fun p1 n1 => ⟨(show (2 : Nat) ≤ sizeLine by decide), fun p2 n2 => ?_⟩⟩⟩
        obtain ⟨s1, h1⟩ := err_fin (K := K) [0, (j : Int)] "capacity" n1 n2
        refine q _ _ (s3.trans s1) ?_
        rw [instE_pair, hPE, firstErr_at hpre hdy (show capE (0 + j) dy = some (err [0, (j : Int)] "capacity") by unfold capE; rw [hw, Nat.zero_add]; rfl)]
        exact h1
      | true =>
        refine ⟨_, rfl, iteF ⟨_, _, rfl, s3, fun m hm d' hd' => ?_⟩⟩
        by_cases hmj : m < j
        · exact hpre m hmj d' hd'
        · obtain rfl : m = j := by omega
          rw [hdy] at hd'
          cases hd'
          unfold capE
          rw [hw]; rfl
    rintro σ H2 ⟨y1, y2, rfl, s2, hpre⟩
    have hPN : postsE (.tuple ds) = none := by rw [hPE]; exact firstErr_none (fun j d hj => hpre j (by have := (List.getElem?_eq_some_iff.mp hj).1; omega) d hj)
    have hIE : instE (.tuple [.tuple ds, db]) = groupsE (xs.length : Nat) db := by rw [instE_pair, hPN, hlx]; rfl
    have hvb2 := hvb.lasts (Lasts.of (st := st) (r := r) s2)
    -- the groups
    have badG : tupOfD 1 10 db = false → ∀ (p1 p2 : Addr) (n1 : H2 p1 = none) (n2 : upd H2 p1 (.tup ([1].map V.int)) p2 = none), Q (.ref p2) (upd (upd H2 p1 (.tup ([1].map V.int))) p2 (.tup [.ref p1, .str "groups"])) := by
      intro hb p1 p2 n1 n2
      obtain ⟨s1, h1⟩ := err_fin (K := K) [1] "groups" n1 n2
      refine q _ _ (s2.trans s1) ?_
      rw [hIE, show groupsE (xs.length : Nat) db = some (err [1] "groups") by unfold groupsE; rw [hb]; rfl]
      exact h1
    have hg2 := (TupK.of s2).sq hg
    refine ⟨.ref ga, rfl, ga, _, 1, vb, rfl, rfl, hg2, atI_nat (j := 1) rfl, vb, .ty "tuple", _, _, _, rfl, .ty _, hvb2.ty, kit_tup db, _, rfl, ?_⟩
    cases db with
    | none => exact iteT (iteT ⟨by decide, fun p1 n1 => ⟨(show (2 : Nat) ≤ sizeLine by decide), fun p2 n2 => badG rfl p1 p2 n1 n2⟩⟩)
    | bool _ => exact iteT (iteT ⟨by decide, fun p1 n1 => ⟨(show (2 : Nat) ≤ sizeLine by decide), fun p2 n2 => badG rfl p1 p2 n1 n2⟩⟩)
    | int _ => exact iteT (iteT ⟨by decide, fun p1 n1 => ⟨(show (2 : Nat) ≤ sizeLine by decide), fun p2 n2 => badG rfl p1 p2 n1 n2⟩⟩)
    | str _ => exact iteT (iteT ⟨by decide, fun p1 n1 => ⟨(show (2 : Nat) ≤ sizeLine by decide), fun p2 n2 => badG rfl p1 p2 n1 n2⟩⟩)
    | list _ => exact iteT (iteT ⟨by decide, fun p1 n1 => ⟨(show (2 : Nat) ≤ sizeLine by decide), fun p2 n2 => badG rfl p1 p2 n1 n2⟩⟩)
    | dict _ => exact iteT (iteT ⟨by decide, fun p1 n1 => ⟨(show (2 : Nat) ≤ sizeLine by decide), fun p2 n2 => badG rfl p1 p2 n1 n2⟩⟩)
    | tuple gs =>
    cases hvb2 with
    | @tup pb ys _ hU hb =>
    have hly := DqAll.len hb
    refine iteF ⟨.ref ga, rfl, ga, _, 1, .ref pb, rfl, rfl, hg2, atI_nat (j := 1) rfl, pb, ys, rfl, .inr hU, _, _, rfl, rfl, _, rfl, ite2 (fun h7 => ⟨_, _, rfl, rfl, _, rfl, ite2 (fun h8 => ?_) (fun h8 => ?_)⟩) (fun h7 => ⟨_, rfl, iteT ?_⟩)⟩
    · refine ⟨by decide, fun p1 n1 => ⟨(show (2 : Nat) ≤ sizeLine by decide), fun p2 n2 => badG ?_ p1 p2 n1 n2⟩⟩
      refine decide_eq_false (fun z => ?_)
      have h4 : decide ((ys.length : Int) ≤ 10) = true := decide_eq_true (by omega)
      rw [h4] at h8
      exact absurd h8 (by decide)
    case refine_3 =>
      refine ⟨by decide, fun p1 n1 => ⟨(show (2 : Nat) ≤ sizeLine by decide), fun p2 n2 => badG ?_ p1 p2 n1 n2⟩⟩
      refine decide_eq_false (fun z => ?_)
      exact h7 (decide_eq_true (by omega))
    have h10 : ys.length ≤ 10 := by
      have h4 : ¬ (!decide ((ys.length : Int) ≤ 10)) = true := h8
      have h5 : (ys.length : Int) ≤ 10 := by simpa using h4
      omega
    have h110 : tupOfD 1 10 (.tuple gs) = true := decide_eq_true ⟨by have := of_decide_eq_true h7; omega, by omega⟩
    have hGE : groupsE (xs.length : Nat) (.tuple gs) = firstErr (grpE (xs.length : Nat)) 0 gs := by unfold groupsE; rw [h110]; rfl
    have hng := (hn2.2 (.tuple gs) (by simp)).parts.2
    refine ⟨.ref ga, rfl, ga, _, 1, .ref pb, rfl, rfl, hg2, atI_nat (j := 1) rfl, pb, ys, rfl, hU, for_it (walk_enumT (K := K) (a := pb) (xs := ys))
      (fun j σ H3 => ∃ z1 z2 z3, σ = [some (.ref ga), y1, y2, z1, z2, z3] ∧ Same H2 H3 ∧ ∀ m, m < j → ∀ d', gs[m]? = some d' → grpE (xs.length : Nat) (0 + m) d' = none)
      ⟨none, none, none, rfl, Same.refl _, fun m hm => absurd hm (Nat.not_lt_zero _)⟩ ?_ ?_ ?_⟩
    · rintro j σ H3 _ ⟨z1, z2, z3, rfl, s3, _⟩
      exact (TupK.of s3).sq hU
    · rintro j v σ H3 H4 hlt ⟨z1, z2, z3, rfl, s3, hpre2⟩ ⟨T, x, y, rfl, nT, rfl, hx, hy⟩
      have hx' : some (V.int (j : Nat)) = some x := hx
      cases hx'
      have hy' : ys[j]? = some y := hy
      obtain ⟨dy, hdy, hyd⟩ := DqAll.at hb hy'
      have s4 : Same H2 (upd H3 T (.tup [.int (j : Nat), y])) := s3.trans (sameNew nT)
      have s04 := s2.trans s4
      refine ⟨T, _, rfl, SqT.of upd_same, rfl, _, _, rfl, _, _, rfl, rfl, .ref ga, rfl, .int (j : Nat), rfl, y, rfl, st, r, ga, pa, [.ref pb], xs, j, y, dy, rfl, (TupK.of s04).sq hg, (TupK.of s04).sq hT, hyd.lasts (.of s4), hng dy (List.mem_of_getElem? hdy), fun H5 x5 s5 hx5 => ?_⟩
      rcases grpE_nn hx5 with ⟨rfl, he⟩ | ⟨e, xa, he, rfl⟩
      · refine ⟨.non, rfl, _, rfl, iteF ⟨_, _, _, rfl, s4.trans s5, fun m hm d' hd' => ?_⟩⟩
        by_cases hmj : m < j
        · exact hpre2 m hmj d' hd'
        · obtain rfl : m = j := by omega
          rw [hdy] at hd'
          cases hd'
          rw [Nat.zero_add]; exact he
      · refine ⟨.ref xa, rfl, _, rfl, iteT ⟨.ref xa, rfl, q _ _ (s04.trans s5) ?_⟩⟩
        rw [hIE, hGE, firstErr_at hpre2 hdy (show grpE (xs.length : Nat) (0 + j) dy = some e by rw [Nat.zero_add]; exact he)]
        rw [he] at hx5
        exact hx5
    · rintro σ H3 ⟨z1, z2, z3, rfl, s3, hpre2⟩
      refine q _ _ (s2.trans s3) ?_
      rw [hIE, hGE, firstErr_none (fun j d hj => hpre2 j (by have := (List.getElem?_eq_some_iff.mp hj).1; omega) d hj)]
      exact .non
end
end Pv
namespace Pv
open PySem PySem.Spec PyProof.Rows L2
abbrev sBw : Stmt := topS 97
theorem scBw : FnScope ["_law_stream_here", "_law_value", "_law_deep", "_law_spot", "_law_some"] ["_law_stream_here", "_law_value", "_law_deep"] (defScope sBw) := ⟨rfl, rfl, rfl, by decide +kernel, rfl, by decide +kernel, by decide +kernel⟩
theorem occ1 {H H1 : Hp} {r p : Addr} (h : H r ≠ none) (s : Same H H1) (np : H1 p = none) : p ≠ r := by
  intro e
  subst e
  cases hp : H p with
  | none => exact h hp
  | some o => rw [s _ _ hp] at np; cases np
theorem occ2 {H H1 : Hp} {r st : Addr} (h : H r ≠ none) (x : Ex1 st H H1) (n : r ≠ st) : H1 r ≠ none := by
  cases hp : H r with
  | none => exact absurd hp h
  | some o => rw [x _ _ hp n]; simp
theorem Lasts.of1r {st r : Addr} {t : Nat} {H H' : Hp} (d : DT H st t) (x : Ex1 st H H') : Lasts st r H H' := by
  refine ⟨x.tup d, fun a xs e n _ => x _ _ e n, fun a kvs e => x _ _ e fun z => ?_⟩
  obtain ⟨r, m, u, h, _⟩ := d
  rw [z, h] at e; cases e
theorem odd_fit : ∀ d ∈ oddB, Fit (10 ^ 30) 2 600 d := fun d hd => (odd_nw d hd).ft
theorem odd_nar : ∀ d ∈ oddB, Nar 10 d := by
  intro d hd
  simp only [oddB, List.mem_cons, List.not_mem_nil, or_false] at hd
  rcases hd with rfl | rfl | rfl | rfl | rfl | rfl | rfl | rfl | rfl | rfl | rfl | rfl | rfl | rfl | rfl | rfl
  · exact .flat (fun _ z => by cases z)
  · exact .flat (fun _ z => by cases z)
  · exact .flat (fun _ z => by cases z)
  · exact .flat (fun _ z => by cases z)
  · exact .flat (fun _ z => by cases z)
  · exact .flat (fun _ z => by cases z)
  · exact .flat (fun _ z => by cases z)
  · exact .tup (Nat.zero_le _) (fun e he => by cases he)
  · exact .flat (fun _ z => by cases z)
  · exact .flat (fun _ z => by cases z)
  · exact .tup (show (1 : Nat) ≤ 10 by decide) (fun e he => by rw [List.mem_singleton.mp he]; exact .flat (fun _ z => by cases z))
  · exact .flat (fun _ z => by cases z)
  · exact .tup (show (1 : Nat) ≤ 10 by decide) (fun e he => by rw [List.mem_singleton.mp he]; exact .flat (fun _ z => by cases z))
  · exact .flat (fun _ z => by cases z)
  · exact .flat (fun _ z => by cases z)
  · exact .flat (fun _ z => by cases z)
theorem wtA_at {ds : List PyData} {i : Nat} {d : PyData} (h : ds[i]? = some d) : wtAll ds = wtAll (ds.take i) + (wt d + 2) + wtAll (ds.drop (i + 1)) := by
  have e : ds.take (i + 1) = ds.take i ++ [d] := take_snoc h
  have := wtAll_split ds (i + 1)
  rw [e, wtAll_app] at this
  simp only [wtAll] at this
  omega
theorem DqAll.set {K : PySem.W.Frag} {st r : Addr} {H : Hp} : ∀ {vs : List V} {ds : List PyData} (j : Nat) {v : V} {d : PyData}, DqAll K st r H vs ds → Dq K st r H v d → DqAll K st r H (vs.set j v) (ds.set j d)
  | _, _, _, _, _, .nil, _ => .nil
  | _, _, 0, _, _, .cons _ h2, h => .cons h h2
  | _, _, j + 1, _, _, .cons h1 h2, h => .cons h1 (DqAll.set j h2 h)
def spOd2 (K : PySem.W.Frag) : Sp := fun vs H Q _ => ∃ (st r : Addr) (t : Nat), vs = [.ref st] ∧ DT H st t ∧ H r ≠ none ∧ t + 20 ≤ 1000000 ∧
  ∀ (H' : Hp) (v : V) (d : PyData), DT H' st (t + 1) → Ex1 st H H' → Dq K st r H' v d → d ∈ oddB → Q v H'
/-- a value that is bent at some depth -/
structure Bent (n k W : Nat) (d : PyData) : Prop where
  na : Nar n d
  ft : Fit (10 ^ 30) k W d
def spBe (K : PySem.W.Frag) : Nat → Sp
  | 0 => fun _ _ _ _ => False
  | n + 1 => fun vs H Q _ => ∃ (st r : Addr) (t deep m k W : Nat) (v : V) (d : PyData), vs = [.ref st, v, .int (deep : Nat)] ∧ DT H st t ∧ H r ≠ none ∧ r ≠ st ∧ t + 4 * deep + 40 ≤ 1000000 ∧ deep + 2 ≤ n ∧ Dq K st r H v d ∧ Bent m k W d ∧ 10 ≤ m ∧ m ≤ 40 ∧ k ≤ 40 ∧ W ≤ 100000 ∧
    ∀ (H' : Hp) (v' : V) (d' : PyData), DT H' st (t + 4 * deep + 4) → Ex1 st H H' → Dq K st r H' v' d' → Bent (m + 1) (k + 2) (2 * W + 700) d' → Q v' H'
section
variable {P : Program} {w : World} {K : PySem.W.Frag} {mg : Str → Option Value} {base : Heap}
set_option maxHeartbeats 16000000 in
theorem ok_Od2 {f fTa : Addr} {fd fdTa : FuncData} (F : Fun K "_law_odd" "_law_odd" sOd f fd)
    (FTa : Fun K "_law_take" "_law_take" sTa fTa fdTa) (bTa : Binds K fdTa ["_law_stream_here", "_law_many"] []) (gTa : mg "_law_take" = some (.ref fTa)) (GTa : FnOk P w K mg base CX0 1 fTa fdTa ["_law_stream_here", "_law_many"] spTa)
     :
    FnOk P w K mg base CX0 2 f fd ["_law_stream_here"] (spOd2 K) := by
  refine F.ok scOd (fun vs H Q E h => ?_) (fun cdv A outer s H vs Q E hr h => ?_)
  · obtain ⟨st, r, t, rfl, _⟩ := h; rfl
  · obtain ⟨st, r, t, rfl, hd, hrr, ht, q⟩ := h
    refine ⟨_, pss_cons (ps_set (i := 1) scOd.nd rfl (.inl rfl) (pe_lst (pa_cons (pe_non) (pa_cons (pe_bl) (pa_cons (pe_bl) (pa_cons (pe_un un_neg (pe_int)) (pa_cons (pe_op op_pow (pe_int) (pe_int)) (pa_cons (pe_str) (pa_cons (pe_str) (pa_cons (pe_tup (pa_nil)) (pa_cons (pe_lstS (pa_nil)) (pa_cons (pe_dnewK) (pa_cons (pe_tup (pa_cons (pe_int) pa_nil)) (pa_cons (pe_lstS (pa_cons (pe_int) pa_nil)) (pa_cons (pe_tup (pa_cons (pe_bl) pa_nil)) (pa_cons (pe_op op_add (pe_op op_pow (pe_int) (pe_int)) (pe_int)) (pa_cons (pe_int) (pa_cons (pe_int) pa_nil))))))))))))))))))
      (pss_one (ps_ret (pe_ix ix_list (pv 1) (pe_call GTa (hr.mono (by omega)) (by rfl) gTa FTa.kp bTa .nil pass0 (pa_cons (pv 0) (pa_cons (pe_int) pa_nil))) (fun _ _ => rfl)))), ?_⟩
    refine ⟨1, rfl, _, _, rfl, rfl, ⟨by decide, by decide, by decide⟩, Nat.zero_le _, fun p1 n1 => ⟨Nat.zero_le _, fun p2 n2 m2 p3 n3 => ?_⟩⟩
    have h1 : Dq K st r (upd H p1 (.tup [])) (.ref p1) (.tuple []) := .tup (SqT.of upd_same) .nil
    have s1 : Same H (upd H p1 (.tup [])) := sameNew n1
    have o2 := (hd.same s1).off n2
    generalize upd H p1 (.tup []) = H1 at *
    have h2 : Dq K st r (upd H1 p2 (.lst [])) (.ref p2) (.list []) := .lst upd_same o2 (occ1 hrr s1 n2) m2 .nil
    have s2 : Same H1 (upd H1 p2 (.lst [])) := sameNew n2
    generalize upd H1 p2 (.lst []) = H2 at *
    have h3 : Dq K st r (upd H2 p3 (.dK [])) (.ref p3) (.dict []) := .dct (kvs := []) upd_same
    have s3 : Same H2 (upd H2 p3 (.dK [])) := sameNew n3
    generalize upd H2 p3 (.dK []) = H3 at *
    refine ⟨by decide, fun p5 n5 => ⟨by decide, fun p6 n6 m6 => ⟨by decide, fun p7 n7 => ⟨_, _, rfl, rfl, ⟨by decide, by decide, by decide⟩, _, _, rfl, rfl, (show (16 : Nat) ≤ sizeLine by decide), fun L nL => ?_⟩⟩⟩⟩
    have h5 : Dq K st r (upd H3 p5 (.tup [.int 0])) (.ref p5) (.tuple [.int 0]) := .tup (SqT.of upd_same) (.cons (.int 0) .nil)
    have s5 : Same H3 (upd H3 p5 (.tup [.int 0])) := sameNew n5
    generalize upd H3 p5 (.tup [.int 0]) = H5 at *
    have s05 := ((s1.trans s2).trans s3).trans s5
    have o6 := (hd.same s05).off n6
    have h6 : Dq K st r (upd H5 p6 (.lst [.int 0])) (.ref p6) (.list [.int 0]) := .lst upd_same o6 (occ1 hrr s05 n6) m6 (.cons (.int 0) .nil)
    have s6 : Same H5 (upd H5 p6 (.lst [.int 0])) := sameNew n6
    generalize upd H5 p6 (.lst [.int 0]) = H6 at *
    have h7 : Dq K st r (upd H6 p7 (.tup [.bl true])) (.ref p7) (.tuple [.bool true]) := .tup (SqT.of upd_same) (.cons (.bl true) .nil)
    have s7 : Same H6 (upd H6 p7 (.tup [.bl true])) := sameNew n7
    generalize upd H6 p7 (.tup [.bl true]) = H7 at *
    have s57 := s6.trans s7
    have s37 := s5.trans s57
    have s27 := s3.trans s37
    have s17 := s2.trans s27
    have s07 := s1.trans s17
    have hall : DqAll K st r H7 [.non, .bl true, .bl false, .int (-1), .int (10 ^ (29 : Int).toNat), .str "", .str "0", .ref p1, .ref p2, .ref p3, .ref p5, .ref p6, .ref p7, .int (10 ^ (12 : Int).toNat + 1), .int 0, .int 6] oddB :=
      .cons .non (.cons (.bl _) (.cons (.bl _) (.cons (.int _) (.cons (.int _) (.cons (.str _) (.cons (.str _) (.cons (h1.lasts (.of s17)) (.cons (h2.lasts (.of s27)) (.cons (h3.lasts (.of s37))
        (.cons (h5.lasts (.of s57)) (.cons (h6.lasts (.of s7)) (.cons h7 (.cons (.int _) (.cons (.int _) (.cons (.int _) .nil)))))))))))))))
    generalize ev : ([.non, .bl true, .bl false, .int (-1), .int (10 ^ (29 : Int).toNat), .str "", .str "0", .ref p1, .ref p2, .ref p3, .ref p5, .ref p6, .ref p7, .int (10 ^ (12 : Int).toNat + 1), .int 0, .int 6] : List V) = vals at *
    have hvl : vals.length = 16 := by rw [← ev]; rfl
    have ev2 : ([.non, .bl true, .bl false, .int (-1), .int (10 ^ (29 : Int).toNat), .str "", .str "0", .ref p1, .ref p2, .ref p3, .ref p5, .ref p6, .ref p7, .int (10 ^ (12 : Int).toNat + 1), .int 0, .int 6] : List V) = vals := ev
    show _
    have sL := sameNew (o := .lst vals) nL
    have dL := hd.same (s07.trans sL)
    have oL := (hd.same s07).off nL
    subst ev
    refine ⟨.ref L, rfl, .ref st, rfl, st, _, 16, rfl, dL, by omega, by decide, by decide, fun H' d h0 h18 D' X' => ?_⟩
    obtain ⟨n, rfl⟩ : ∃ n : Nat, d = n := ⟨d.toNat, by omega⟩
    have hL := X' _ _ upd_same oL
    have hallL := (hall.lasts (.of sL)).lasts (Lasts.of1r dL X')
    generalize ev : ([.non, .bl true, .bl false, .int (-1), .int (10 ^ (29 : Int).toNat), .str "", .str "0", .ref p1, .ref p2, .ref p3, .ref p5, .ref p6, .ref p7, .int (10 ^ (12 : Int).toNat + 1), .int 0, .int 6] : List V) = vals at *
    have hn : n < vals.length := by omega
    obtain ⟨dd, hdd, hdq⟩ := DqAll.at hallL (List.getElem?_eq_getElem hn)
    refine ⟨L, _, _, _, rfl, rfl, SqL.of ?_, atI_nat (List.getElem?_eq_getElem hn), q _ _ _ D' ((Ex1.of (s07.trans sL)).trans X') hdq (List.mem_of_getElem? hdd)⟩
    exact hL
set_option maxHeartbeats 16000000 in
theorem ok_Bw {f fTa fLP fOd2 : Addr} {fd fdTa fdLP fdOd2 : FuncData} (F : Fun K "_law_bent" "_law_bent" sBw f fd) (b : Binds K fd ["_law_stream_here", "_law_value", "_law_deep"] []) (g : mg "_law_bent" = some (.ref f))
    (FTa : Fun K "_law_take" "_law_take" sTa fTa fdTa) (bTa : Binds K fdTa ["_law_stream_here", "_law_many"] []) (gTa : mg "_law_take" = some (.ref fTa)) (GTa : FnOk P w K mg base CX0 1 fTa fdTa ["_law_stream_here", "_law_many"] spTa)
    (FLP : Fun K "_law_put" "_law_put" sLP fLP fdLP) (bLP : Binds K fdLP ["_law_items", "_law_spot", "_law_item"] []) (gLP : mg "_law_put" = some (.ref fLP)) (GLP : FnOk P w K mg base CX0 1 fLP fdLP ["_law_items", "_law_spot", "_law_item"] (spWI K))
    (FOd2 : Fun K "_law_odd" "_law_odd" sOd fOd2 fdOd2) (bOd2 : Binds K fdOd2 ["_law_stream_here"] []) (gOd2 : mg "_law_odd" = some (.ref fOd2)) (GOd2 : FnOk P w K mg base CX0 2 fOd2 fdOd2 ["_law_stream_here"] (spOd2 K))
    (m_tuple : mg "tuple" = none) (m_isinstance : mg "isinstance" = none) (m_len : mg "len" = none) (m_list : mg "list" = none) :
    ∀ n, FnOk P w K mg base CX0 n f fd ["_law_stream_here", "_law_value", "_law_deep"] (spBe K n) := by
  intro n
  induction n with
  | zero => exact ⟨fun _ _ _ _ h => h.elim, fun _ _ _ _ _ _ _ _ _ _ _ _ _ h => h.elim⟩
  | succ n G =>
  refine F.ok scBw (fun vs H Q E h => ?_) (fun cdv A outer s H vs Q E hr h => ?_)
  · obtain ⟨st, r, t, deep, m, k, W, v, d, rfl, _⟩ := h; rfl
  · obtain ⟨st, r, t, deep, m, k, W, v, d, rfl, hT, hrr, hrs, ht, hlv, hd, hb, hm1, hm2, hk2, hW, q⟩ := h
    have hu0 : (A.deeper (envOfC "_law_bent" (defScope sBw) s.heap.objs.size f cdv)).units < cLine := by have := hr.un; omega
    have hu0 : (A.deeper (envOfC "_law_bent" (defScope sBw) s.heap.objs.size f cdv)).units < cLine := by have := hr.un; omega
    refine ⟨_, pss_cons (ps_if (PW.pt (pw_and (pt_cmpR op_gt (pv 2) (pe_int) (nomark _)) (pw_and (pt_val (pe_callB call_isi (by rfl) m_isinstance (by decide +kernel) (pa_cons (pv 1) (pa_cons (pe_bltn (v := .ty "tuple") (by rfl) m_tuple (by decide +kernel) rfl) pa_nil)))) (pw_and (pt_cmpR (op_neNilT hu0) (pv 1) (pe_tup (pa_nil)) (nomark _)) (pw_and1 (pt_cmpR op_gt (pe_call GTa (hr.mono (by omega)) (by rfl) gTa FTa.kp bTa .nil pass0 (pa_cons (pv 0) (pa_cons (pe_int) pa_nil))) (pe_int) (nomark _)))))))
        (pss_cons (ps_set (i := 3) scBw.nd rfl (.inl rfl) (pe_call GTa (hr.mono (by omega)) (by rfl) gTa FTa.kp bTa .nil pass0 (pa_cons (pv 0) (pa_cons (pe_callB call_lenQ (by rfl) m_len PySem.boot_len (pa_cons (pv 1) pa_nil)) pa_nil))))
        (pss_one (ps_ret (pe_call GLP (hr.mono (by omega)) (by rfl) gLP FLP.kp bLP .nil pass0 (pa_cons (pv 1) (pa_cons (pv 3) (pa_cons (pe_call G hr (by rfl) g F.kp b .nil pass0 (pa_cons (pv 0) (pa_cons (pe_ix ix_tup (pv 1) (pv 3) (fun _ _ => rfl)) (pa_cons (pe_op op_sub (pv 2) (pe_int)) pa_nil)))) pa_nil))))))) pss_nil)
      (pss_cons (ps_set (i := 4) scBw.nd rfl (.inl rfl) (pe_lst (pa_cons (pe_call GOd2 (hr.mono (by omega)) (by rfl) gOd2 FOd2.kp bOd2 .nil pass0 (pa_cons (pv 0) pa_nil)) (pa_cons (pe_call GOd2 (hr.mono (by omega)) (by rfl) gOd2 FOd2.kp bOd2 .nil pass0 (pa_cons (pv 0) pa_nil)) pa_nil))))
      (pss_cons (ps_if (pt_val (pe_callB call_isi (by rfl) m_isinstance (by decide +kernel) (pa_cons (pv 1) (pa_cons (pe_bltn (v := .ty "tuple") (by rfl) m_tuple (by decide +kernel) rfl) pa_nil))))
        (pss_one (ps_set (i := 4) scBw.nd rfl (.inl rfl) (pe_op op_cat (pv 4) (pe_lst (pa_cons (pe_callTy call_listS (by rfl) m_list (by decide +kernel) (pa_cons (pv 1) pa_nil)) (pa_cons (pe_op op_catA (pv 1) (pe_slice sl_tupA (pv 1) po_none (po_some (pe_int)))) (pa_cons (pe_slice sl_tupA (pv 1) (po_some (pe_int)) po_none) (pa_cons (pe_op op_catA (pv 1) (pe_tup (pa_cons (pe_int) pa_nil))) pa_nil)))))))) pss_nil)
      (pss_one (ps_ret (pe_ix ix_list (pv 4) (pe_call GTa (hr.mono (by omega)) (by rfl) gTa FTa.kp bTa .nil pass0 (pa_cons (pv 0) (pa_cons (pe_callB call_lenQ (by rfl) m_len PySem.boot_len (pa_cons (pv 4) pa_nil)) pa_nil))) (fun _ _ => rfl)))))), ?_⟩
    refine seq_w (fun σ1 H1 => σ1 = [some (.ref st), some v, some (.int (deep : Nat)), none, none] ∧ ∃ t1, DT H1 st t1 ∧ t1 ≤ t + 1 ∧ Ex1 st H H1) ?rest (fun rest => ?main)
    case main =>
      refine ⟨.int (deep : Nat), rfl, _, _, rfl, rfl, _, rfl, ite2 (fun h0 => ?_) (fun h0 => rest _ _ ⟨rfl, t, hT, by omega, Ex1.refl⟩)⟩
      have hdp : 0 < deep := by have := of_decide_eq_true h0; omega
      refine ⟨v, rfl, v, .ty "tuple", _, _, _, rfl, .ty _, hd.ty, kit_tup d, _, rfl, ite2 (fun h1 => ?_) (fun h1 => rest _ _ ⟨rfl, t, hT, by omega, Ex1.refl⟩)⟩
      cases d with
      | none | bool _ | int _ | str _ | list _ | dict _ => simp [isTup] at h1
      | tuple ds =>
      cases hd with
      | @tup a xs _ hA ha =>
      have hl := DqAll.len ha
      obtain ⟨np1, np2⟩ := hb.na.parts
      obtain ⟨hp1, hp2, hp3⟩ := hb.ft.parts
      refine ⟨.ref a, rfl, Nat.zero_le _, fun e ne => ⟨a, e, xs, rfl, rfl, (TupK.new ne).sq hA, SqT.of upd_same, _, rfl, ite2 (fun h2 => ?_) (fun h2 => rest _ _ ⟨rfl, t, hT.new ne, by omega, Ex1.of (sameNew ne)⟩)⟩⟩
      have hxs : 0 < xs.length := by
        cases xs with
        | nil => simp at h2
        | cons _ _ => simp
      have se : Same H (upd H e (.tup [])) := sameNew ne
      refine ⟨.ref st, rfl, st, t, 5, rfl, hT.same se, by omega, by decide, by decide, fun H1 g5 g50 g51 D1 X1 => ⟨_, _, rfl, rfl, _, rfl, ite2 (fun h3 => ?_) (fun h3 => rest _ _ ⟨rfl, t + 1, D1, Nat.le_refl _, (Ex1.of se).trans X1⟩)⟩⟩
      have X01 := (Ex1.of se).trans X1
      have L1 := Lasts.of1r (r := r) hT X01
      refine ⟨.ref st, rfl, .ref a, rfl, a, xs, rfl, .inr (L1.tk.sq hA), st, t + 1, _, rfl, D1, by omega, by omega, by omega, fun H2 sp s0 s1 D2 X2 => ?_⟩
      obtain ⟨sn, rfl⟩ : ∃ m : Nat, sp = m := ⟨sp.toNat, by omega⟩
      have hsn : sn < xs.length := by omega
      have X02 := X01.trans X2
      have L2' := Lasts.of1r (r := r) hT X02
      have hA2 := L2'.tk.sq hA
      obtain ⟨de, hde, hxe⟩ := DqAll.at ha (List.getElem?_eq_getElem hsn)
      have hmem := List.mem_of_getElem? hde
      obtain ⟨hfe, hdd, _⟩ := hb.ft.at hmem
      obtain ⟨n', rfl⟩ : ∃ n', n = n' + 1 := ⟨n - 1, by omega⟩
      obtain ⟨deep', rfl⟩ : ∃ j, deep = j + 1 := ⟨deep - 1, by omega⟩
      have hwa := wtA_at hde
      have hwl := wtAll_len ds
      refine ⟨.ref a, rfl, .int sn, rfl, .ref st, rfl, .ref a, rfl, .int sn, rfl, a, xs, sn, _, rfl, rfl, hA2, atI_nat (List.getElem?_eq_getElem hsn), .int ((deep' + 1 : Nat) : Int), rfl, _, _, rfl, rfl, ?_⟩
      refine ⟨st, r, t + 1 + 1, deep', m, k - 1, wt de, _, de, by show [V.ref st, xs[sn], V.int (((deep' + 1 : Nat) : Int) - 1)] = _; rw [show ((deep' + 1 : Nat) : Int) - 1 = (deep' : Nat) by omega], D2, occ2 hrr X02 hrs, hrs, by omega, by omega, hxe.lasts L2', ⟨np2 de hmem, ⟨hfe.ok, hfe.dp, Nat.le_refl _⟩⟩, hm1, hm2, by omega, by omega, fun H3 v3 d3 D3 X3 hv3 hb3 => ?_⟩
      have L3 := L2'.trans (Lasts.of1r (r := r) D2 X3)
      refine ⟨a, xs, sn, v3, rfl, L3.tk.sq hA, hsn, by omega, fun H4 p s4 hp => ?_⟩
      have L4 := L3.trans (.of s4)
      refine q H4 (.ref p) (.tuple (ds.set sn d3)) ((D3.same s4).mono (by omega)) ((X02.trans X3).trans (Ex1.of s4)) (.tup hp ((ha.lasts L4).set sn (hv3.lasts (.of s4)))) ⟨.tup (by rw [List.length_set]; omega) fun x hx => ?_, Fit.tup ?_ (by omega) ?_⟩
      · rcases List.mem_or_eq_of_mem_set hx with h | rfl
        · exact (np2 x h).mono (by omega)
        · exact hb3.na
      · intro x hx
        rcases List.mem_or_eq_of_mem_set hx with h | rfl
        · have := hp1 x h
          exact ⟨this.1, by omega⟩
        · exact ⟨hb3.ft.ok, by have := hb3.ft.dp; omega⟩
      · have h3 := hb3.ft.wt
        have e : ds.set sn d3 = ds.take sn ++ [d3] ++ ds.drop (sn + 1) := by
          have hsd : sn < ds.length := by omega
          rw [List.set_eq_take_append_cons_drop, if_pos hsd]; simp
        rw [e, wtAll_app, wtAll_app]
        simp only [wtAll]
        omega
    case rest =>
      rintro _ H1 ⟨rfl, t1, D1, ht1, X1⟩
      refine ⟨.ref st, rfl, st, r, t1, rfl, D1, occ2 hrr X1 hrs, by omega, fun H2 o1 e1 D2 X2 h1 m1 => ?_⟩
      have X02 := X1.trans X2
      refine ⟨.ref st, rfl, st, r, t1 + 1, rfl, D2, occ2 hrr X02 hrs, by omega, fun H3 o2 e2 D3 X3 h2 m2 => ?_⟩
      have X03 := X02.trans X3
      refine ⟨(show (2 : Nat) ≤ sizeLine by decide), fun Z nZ => ?_⟩
      have sZ := sameNew (o := .lst [o1, o2]) nZ
      have h13 := h1.lasts (Lasts.of1r (r := r) D2 X3)
      have L3 := Lasts.of1r (r := r) hT X03
      have D4 := D3.same sZ
      have oZ := D3.off nZ
      have X04 := X03.trans (Ex1.of sZ)
      have eZ : (upd H3 Z (.lst [o1, o2])) Z = some (.lst [o1, o2]) := upd_same
      have h14 := h13.lasts (Lasts.of sZ)
      have h24 := h2.lasts (Lasts.of sZ)
      have hd4 := hd.lasts (L3.trans (.of sZ))
      generalize upd H3 Z (.lst [o1, o2]) = H4 at *
      have b1 : Bent (m + 1) (k + 2) (2 * W + 700) e1 := ⟨(odd_nar _ m1).mono (by omega), (odd_fit _ m1).mono (Nat.le_refl _) (by omega) (by omega)⟩
      have b2 : Bent (m + 1) (k + 2) (2 * W + 700) e2 := ⟨(odd_nar _ m2).mono (by omega), (odd_fit _ m2).mono (Nat.le_refl _) (by omega) (by omega)⟩
      have hst : H1 st ≠ none := by obtain ⟨r, m, u, e, _⟩ := D1; rw [e]; simp
      dsimp only [gName]
      refine (id ?_ : tSeq (tIfS _ _ _) _ _ _ _)
      refine seq_w (fun σ1 H5 => ∃ (Y : Addr) (ys : List V) (es : List PyData) (y3 : Option V), σ1 = [some (.ref st), some v, some (.int (deep : Nat)), y3, some (.ref Y)] ∧ Ex1 st H H5 ∧ DT H5 st (t1 + 1 + 1) ∧ H5 Y = some (.lst ys) ∧ Y ≠ st ∧ DqAll K st r H5 ys es ∧ 0 < ys.length ∧ ys.length ≤ 10 ∧ ∀ e ∈ es, Bent (m + 1) (k + 2) (2 * W + 700) e) ?rest2 (fun rest2 => ?main2)
      case rest2 =>
        rintro _ H5 ⟨Y, ys, es, y3, rfl, X5, D5, eY, oY, hy, l0, l1, be⟩
        refine ⟨.ref Y, rfl, .ref st, rfl, .ref Y, rfl, Y, ys, rfl, .inl (SqL.of eY), st, _, _, rfl, D5, by omega, by omega, by omega, fun H6 c c0 c1 D6 X6 => ?_⟩
        obtain ⟨cn, rfl⟩ : ∃ j : Nat, c = j := ⟨c.toNat, by omega⟩
        have hcn : cn < ys.length := by omega
        have hy6 := hy.lasts (Lasts.of1r (r := r) D5 X6)
        obtain ⟨de, hde, hxe⟩ := DqAll.at hy6 (List.getElem?_eq_getElem hcn)
        exact ⟨Y, _, cn, _, rfl, rfl, SqL.of (X6 _ _ eY oY), atI_nat (List.getElem?_eq_getElem hcn), q _ _ _ (D6.mono (by omega)) (X5.trans X6) hxe (be _ (List.mem_of_getElem? hde))⟩
      case main2 =>
        refine ⟨v, rfl, v, .ty "tuple", _, _, _, rfl, .ty _, hd4.ty, kit_tup d, _, rfl, ite2 (fun h1 => ?_) (fun h1 => ?_)⟩
        · cases d with
          | none | bool _ | int _ | str _ | list _ | dict _ => simp [isTup] at h1
          | tuple ds =>
          cases hd4 with
          | @tup a xs _ hA ha =>
          have hl := DqAll.len ha
          obtain ⟨np1, np2⟩ := hb.na.parts
          obtain ⟨hp1, hp2, hp3⟩ := hb.ft.parts
          have hwl := wtAll_len ds
          refine ⟨.ref Z, rfl, .ref a, rfl, a, xs, rfl, hA, fun L1 nL1 mL1 => ⟨.ref a, rfl, .ref a, rfl, 1, rfl, ?_⟩⟩
          have s1 := sameNew (o := .lst xs) nL1
          have oL1 := D4.off nL1
          have rL1 : L1 ≠ r := fun z => by
            have : H4 r ≠ none := occ2 hrr X04 hrs
            rw [← z] at this; exact this nL1
          have hl1 : Dq K st r (upd H4 L1 (.lst xs)) (.ref L1) (.list ds) := .lst upd_same oL1 rL1 mL1 (ha.lasts (.of s1))
          have ha5 := ha.lasts (Lasts.of s1)
          have hA5 := (TupK.of s1).sq hA
          generalize upd H4 L1 (.lst xs) = H5 at s1 hl1 ha5 hA5 ⊢
          dsimp only [tNoPart]
          refine take_eq hA5 1 (fun H6 b6 s6 hb6 => ?_)
          refine cat_eq (xs := xs) (ys := xs.take 1) ((TupK.of s6).sq hA5) hb6 (Nat.le_of_lt (small (by simp; omega))) (fun H7 b7 s7 hb7 => ?_)
          have s57 := s6.trans s7
          have hA7 := (TupK.of s57).sq hA5
          refine ⟨.ref a, rfl, 1, rfl, ?_⟩
          dsimp only [tNoPart]
          refine drop_eq hA7 1 (fun H8 b8 s8 hb8 => ?_)
          have hA8 := (TupK.of s8).sq hA7
          refine ⟨.ref a, rfl, (show (1 : Nat) ≤ sizeLine by decide), fun T1 nT1 => ?_⟩
          have sT := sameNew (o := .tup [.int 0]) nT1
          refine cat_eq (xs := xs) (ys := [.int 0]) ((TupK.of sT).sq hA8) (SqT.of upd_same) (Nat.le_of_lt (small (by simp; omega))) (fun H9 b9 s9 hb9 => ?_)
          have s89 := sT.trans s9
          have s79 := s8.trans s89
          have s59 := s57.trans s79
          refine ⟨(show (4 : Nat) ≤ sizeLine by decide), fun L2 nL2 => ?_⟩
          have sL2 := sameNew (o := .lst [V.ref L1, .ref b7, .ref b8, .ref b9]) nL2
          have s4L := (s1.trans s59).trans sL2
          refine ⟨Z, L2, [o1, o2], [V.ref L1, .ref b7, .ref b8, .ref b9], rfl, rfl, s4L _ _ eZ, upd_same, (show (6 : Nat) ≤ sizeLine by decide), fun L3 nL3 => ?_⟩
          have sL3 := sameNew (o := .lst ([o1, o2] ++ [V.ref L1, .ref b7, .ref b8, .ref b9])) nL3
          have s4f := s4L.trans sL3
          have s9f := sL2.trans sL3
          have l5f : Lasts st r H5 _ := .of (s59.trans s9f)
          have ha9 := ha5.lasts l5f
          have D9 := D4.same s4f
          refine rest2 _ _ ⟨L3, _, [e1, e2, .list ds, .tuple (ds ++ ds.take 1), .tuple (ds.drop 1), .tuple (ds ++ [.int 0])], _, rfl, X04.trans (Ex1.of s4f), D9, upd_same, (D4.same s4L).off nL3, ?_, (show 0 < 6 by decide), (show 6 ≤ 10 by decide), fun e he => ?_⟩
          · exact .cons (h14.lasts (.of s4f)) (.cons (h24.lasts (.of s4f)) (.cons (hl1.lasts l5f) (.cons (.tup ((TupK.of (s79.trans s9f)).sq hb7) (ha9.app (DqAll.take 1 ha9))) (.cons (.tup ((TupK.of (s89.trans s9f)).sq hb8) (DqAll.drop 1 ha9)) (.cons (.tup ((TupK.of s9f).sq hb9) (ha9.app (.cons (.int 0) .nil))) .nil)))))
          · have hin : ∀ x ∈ ds, fit (10 ^ 30) x ∧ x.depth + 1 ≤ k + 2 := fun x hx => ⟨(hp1 x hx).1, by have := (hp1 x hx).2; omega⟩
            have w1 : wtAll (ds.take 1) ≤ wtAll ds := by have := wtAll_split ds 1; omega
            have w2 : wtAll (ds.drop 1) ≤ wtAll ds := by have := wtAll_split ds 1; omega
            simp only [List.mem_cons, List.not_mem_nil, or_false] at he
            rcases he with rfl | rfl | rfl | rfl | rfl | rfl
            · exact b1
            · exact b2
            · exact ⟨.flat (fun _ z => by cases z), Fit.lst hin (by omega) (by omega)⟩
            · refine ⟨.tup (by rw [List.length_append, List.length_take]; omega) fun x hx => ?_, Fit.tup (fun x hx => ?_) (by omega) (by rw [wtAll_app]; omega)⟩
              · rcases List.mem_append.mp hx with h | h
                · exact (np2 x h).mono (by omega)
                · exact (np2 x (List.mem_of_mem_take h)).mono (by omega)
              · rcases List.mem_append.mp hx with h | h
                · exact hin x h
                · exact hin x (List.mem_of_mem_take h)
            · exact ⟨.tup (by rw [List.length_drop]; omega) fun x hx => (np2 x (List.mem_of_mem_drop hx)).mono (by omega), Fit.tup (fun x hx => hin x (List.mem_of_mem_drop hx)) (by omega) (by omega)⟩
            · refine ⟨.tup (by rw [List.length_append, List.length_singleton]; omega) fun x hx => ?_, Fit.tup (fun x hx => ?_) (by omega) (by rw [wtAll_app]; simp only [wtAll, Pv.wt]; omega)⟩
              · rcases List.mem_append.mp hx with h | h
                · exact (np2 x h).mono (by omega)
                · rw [List.mem_singleton.mp h]; exact .int
              · rcases List.mem_append.mp hx with h | h
                · exact hin x h
                · rw [List.mem_singleton.mp h]; exact ⟨by simp [fit], by simp [PyData.depth]⟩
        · exact rest2 _ _ ⟨Z, [o1, o2], [e1, e2], _, rfl, X04, D4, eZ, oZ, .cons h14 (.cons h24 .nil), (show 0 < 2 by decide), (show 2 ≤ 10 by decide), fun e he => by
            simp only [List.mem_cons, List.not_mem_nil, or_false] at he
            rcases he with rfl | rfl
            · exact b1
            · exact b2⟩
end
end Pv
namespace Pv
open PySem PySem.Spec PyProof.Rows L2
abbrev sMR : Stmt := topS 98
theorem scMR : FnScope ["_law_stream_here", "_law_instance_here", "_law_values", "_law_value", "_law_k"] ["_law_stream_here", "_law_instance_here"] (defScope sMR) := ⟨rfl, rfl, rfl, by decide +kernel, rfl, by decide +kernel, by decide +kernel⟩
/-- what can be written -/
def Wr (d : PyData) : Prop := d.showable = true ∧ d.depth ≤ 60 ∧ d.shown.length ≤ sizeLine
theorem Wr.fit {W : Nat} {d : PyData} (h : Fit (10 ^ 30) 3 W d) (hW : W ≤ 10000) : Wr d := by
  have := fit_ok (M := 10 ^ 30) (by decide) h.ok
  exact ⟨this.1, Nat.le_trans h.dp (by decide), Nat.le_trans this.2 (Nat.le_trans (Nat.le_trans h.wt hW) (by decide))⟩
theorem Wr.fine {k B : Nat} {d : PyData} (h : Fine k B d) (hk : k ≤ 60) (hB : B ≤ 5000000) : Wr d := ⟨h.sh, Nat.le_trans h.dp hk, Nat.le_trans h.ln (Nat.le_trans hB (by decide))⟩
theorem wr_err2 {p : List Int} {s : Str} (hp : p.length ≤ 3) (hb : ∀ i ∈ p, i.natAbs ≤ 10 ^ 30) (hs : (reprText s).length ≤ 100) : Wr (err p s) := by
  refine Wr.fit (W := 3000) (Fit.tup (fun d hd => ?_) (by decide) ?_) (by decide)
  · simp only [List.mem_cons, List.not_mem_nil, or_false] at hd
    rcases hd with rfl | rfl
    · have := fit_dI (M := 10 ^ 30) hb
      exact ⟨this.ok, by have := this.dp; omega⟩
    · exact ⟨by unfold Pv.fit; exact Nat.le_trans hs (by decide), by simp [PyData.depth]⟩
  · have h1 := (fit_dI (M := 10 ^ 30) hb).wt
    have h2 : Pv.wt (.str s) ≤ 400 := by unfold Pv.wt; exact Nat.le_refl _
    simp only [wtAll]; omega
theorem fe_at {ge : Nat → PyData → Option PyData} : ∀ {ds : List PyData} {i : Nat} {e : PyData}, firstErr ge i ds = some e → ∃ j d, j < ds.length ∧ ge (i + j) d = some e
  | [], _, _, h => by cases h
  | d :: ds, i, e, h => by
    unfold firstErr at h
    cases h1 : ge i d with
    | some x => rw [h1] at h; exact ⟨0, d, by simp, by rw [Nat.add_zero, h1]; exact h⟩
    | none =>
      rw [h1] at h
      obtain ⟨j, y, hj, hy⟩ := fe_at h
      exact ⟨j + 1, y, by simp; omega, by rw [show i + (j + 1) = i + 1 + j by omega]; exact hy⟩
theorem wr_inst (d : PyData) : Wr (optD (instE d)) := by
  cases h : instE d with
  | none => exact ⟨rfl, by decide, by decide +kernel⟩
  | some e =>
    show Wr e
    unfold instE at h
    split at h
    case h_2 => cases h; exact wr_err2 (by decide) (fun i hi => by cases hi) (by decide +kernel)
    case h_1 a b =>
    cases hp : postsE a with
    | some x =>
      rw [hp] at h
      cases h
      unfold postsE at hp
      cases ht : tupOfD 1 6 a with
      | false => rw [ht] at hp; cases hp; exact wr_err2 (by decide) (fun i hi => by rw [List.mem_singleton.mp hi]; decide) (by decide +kernel)
      | true =>
        rw [ht] at hp
        cases a with
        | none | bool _ | int _ | str _ | list _ | dict _ => simp [tupOfD] at ht
        | tuple ds =>
        have le := of_decide_eq_true ht
        obtain ⟨j, y, hj, hy⟩ := fe_at (ds := ds) hp
        unfold capE at hy
        split at hy
        · cases hy
        · cases hy
          exact wr_err2 (by simp) (fun i hi => by simp only [List.mem_cons, List.not_mem_nil, or_false] at hi; rcases hi with rfl | rfl <;> omega) (by decide +kernel)
    | none =>
      rw [hp] at h
      have h : groupsE (((tupItems a).length : Nat) : Int) b = some e := h
      unfold groupsE at h
      cases ht : tupOfD 1 10 b with
      | false => rw [ht] at h; cases h; exact wr_err2 (by decide) (fun i hi => by rw [List.mem_singleton.mp hi]; decide) (by decide +kernel)
      | true =>
        rw [ht] at h
        cases b with
        | none | bool _ | int _ | str _ | list _ | dict _ => simp [tupOfD] at ht
        | tuple ds =>
        have le := of_decide_eq_true ht
        obtain ⟨j, y, hj, hy⟩ := fe_at (ds := ds) h
        unfold grpE at hy
        split at hy
        · split at hy
          · split at hy
            · cases hy
            · cases hy
              exact wr_err2 (by simp) (fun i hi => by simp only [List.mem_cons, List.not_mem_nil, or_false] at hi; rcases hi with rfl | rfl | rfl <;> omega) (by decide +kernel)
          · cases hy
            exact wr_err2 (by simp) (fun i hi => by simp only [List.mem_cons, List.not_mem_nil, or_false] at hi; rcases hi with rfl | rfl | rfl <;> omega) (by decide +kernel)
        · cases hy
          exact wr_err2 (by simp) (fun i hi => by simp only [List.mem_cons, List.not_mem_nil, or_false] at hi; rcases hi with rfl | rfl <;> omega) (by decide +kernel)
theorem to_err {p : List Int} {s : Str} : tupOnly (err p s) = true := by simp [err, tupOnly, tupOnlyAll, to_dI]
theorem to_inst (d : PyData) : tupOnly (optD (instE d)) = true := by
  cases h : instE d with
  | none => rfl
  | some e =>
    cases d with
    | none | bool _ | int _ | str _ | list _ | dict _ => cases h; exact to_err
    | tuple ds =>
      cases ht : tupOfD 2 2 (.tuple ds) with
      | true =>
        obtain ⟨a, b, rfl⟩ := two_of ht
        have h2 := h
        rw [instE_pair] at h2
        cases hp : postsE a with
        | some x => rw [hp] at h2; cases h2; obtain ⟨p, s, rfl⟩ := postsE_err hp; exact to_err
        | none => rw [hp] at h2; obtain ⟨p, s, rfl⟩ := groupsE_err h2; exact to_err
      | false =>
        unfold instE at h
        split at h
        · rename_i heq
          cases heq
          simp [tupOfD] at ht
        · cases h; exact to_err
theorem fit_inst {x : Ins} (io : InOk x.1 x.2) : Fit (10 ^ 30) 5 20000 (dI2 x) := by
  have ok := io.ok
  have c6 := ok.c6
  have g10 := ok.g10
  refine fit_dInst ⟨by omega, fun c hc => ?_⟩ (by omega) fun g hg => ?_
  · have := ok.cb c hc; omega
  · have := ok.gp g hg
    exact ⟨by omega, fun p hp => by have := this.2.1 p hp; omega, by omega⟩
def spEq3 (K : PySem.W.Frag) : Sp := fun vs H Q _ => ∃ (st r : Addr) (a b : V) (d : PyData), vs = [a, b] ∧ Dq K st r H a d ∧ Dq K st r H b d ∧ Wr d ∧ Q (.bl true) H
def spMR (K : PySem.W.Frag) : Sp := fun vs H Q _ => ∃ (st i : Addr) (t : Nat) (x : Ins), vs = [.ref st, .ref i] ∧ DT H st t ∧ t + 400 ≤ 1000000 ∧ Dp K H (.ref i) (dI2 x) ∧ InOk x.1 x.2 ∧ ∀ H', DT H' st (t + 150) → Ex1 st H H' → Q (.bl true) H'
theorem Lasts.putD {st D : Addr} {H : Hp} {xs ys : List V} (e : H D = some (.lst xs)) : Lasts st D H (upd H D (.lst ys)) :=
  ⟨TupK.put e, fun a zs h _ n => by rw [upd_ne n]; exact h, fun a kvs h => by rw [upd_ne (fun z => by rw [z, e] at h; cases h)]; exact h⟩
section
variable {P : Program} {w : World} {K : PySem.W.Frag} {mg : Str → Option Value} {base : Heap}
set_option maxHeartbeats 16000000 in
theorem ok_MR {f fBw fMd fLF fEq : Addr} {fd fdBw fdMd fdLF fdEq : FuncData} (F : Fun K "_law_made_right" "_law_made_right" sMR f fd)
    (FBw : Fun K "_law_bent" "_law_bent" sBw fBw fdBw) (bBw : Binds K fdBw ["_law_stream_here", "_law_value", "_law_deep"] []) (gBw : mg "_law_bent" = some (.ref fBw)) (GBw : FnOk P w K mg base CX0 7 fBw fdBw ["_law_stream_here", "_law_value", "_law_deep"] (spBe K 7))
    (FMd : Fun K "_law_made" "_law_made" sMd fMd fdMd) (bMd : Binds K fdMd ["_law_value"] []) (gMd : mg "_law_made" = some (.ref fMd)) (GMd : FnOk P w K mg base CX0 8 fMd fdMd ["_law_value"] (spMd K))
    (FLF : Fun K "_law_fault" "_law_fault" sLF fLF fdLF) (bLF : Binds K fdLF ["_law_value"] []) (gLF : mg "_law_fault" = some (.ref fLF)) (GLF : FnOk P w K mg base CX0 4 fLF fdLF ["_law_value"] (spLF K))
    (FEq : Fun K "_law_equal" "_law_equal" sEq fEq fdEq) (bEq : Binds K fdEq ["_law_one", "_law_other"] []) (gEq : mg "_law_equal" = some (.ref fEq)) (GEq : FnG P w K mg base  1 fEq fdEq ["_law_one", "_law_other"] (spEq3 K))
    (m_list : mg "list" = none) (m_range : mg "range" = none) :
    FnG P w K mg base 10 f fd ["_law_stream_here", "_law_instance_here"] (spMR K) := by
  refine okG F scMR (fun vs H Q E h => ?_) (fun cdv A outer s H vs Q E hgd hr h => ?_)
  · obtain ⟨st, i, t, x, rfl, _⟩ := h; rfl
  · obtain ⟨st, i, t, x, rfl, hT, ht, hi, io, q⟩ := h
    refine ⟨_, pss_cons (ps_set (i := 2) scMR.nd rfl (.inl rfl) (pe_lst (pa_cons (pv 1) (pa_cons (pe_callTy call_listS (by rfl) m_list (by decide +kernel) (pa_cons (pv 1) pa_nil)) (pa_cons (pe_slice sl_tupA (pv 1) po_none (po_some (pe_int))) (pa_cons (pe_tup (pa_cons (pe_ix ix_tup (pv 1) (pe_int) (fun _ _ => rfl)) (pa_cons (pe_tup (pa_nil)) pa_nil))) (pa_cons (pe_tup (pa_cons (pe_tup (pa_nil)) (pa_cons (pe_ix ix_tup (pv 1) (pe_int) (fun _ _ => rfl)) pa_nil))) (pa_cons (pe_dnewK) (pa_cons (pe_tup (pa_cons (pe_op op_repA (pe_ix ix_tup (pv 1) (pe_int) (fun _ _ => rfl)) (pe_int)) (pa_cons (pe_int) pa_nil))) pa_nil)))))))))
      (pss_cons (ps_set (i := 2) scMR.nd rfl (.inl rfl) (pe_op op_cat (pv 2) (pe_lc (own := [("_law_k", 4)]) (g := gName 4) (tt := tYes) (te := tCall (spBe K 7) [] E0 (tCons (tVar 0) (tCons (tVar 1) (tCons (tC (.int 4)) tNil)))) rfl scMR.nd (pi_range1 (by rfl) m_range (pa_cons (pe_int) pa_nil)) (blkOk_by (N := ["_law_stream_here", "_law_instance_here", "_law_values", "_law_value", "_law_k"]) (sc := defScope sMR) (by decide +kernel)) (fun _ _ _ _ _ => pg_name (i := 4) scMR.nd rfl (.inl rfl)) (fun _ _ _ _ _ => pts_nil) (fun _ _ _ _ _ => pe_call GBw (hr.mono (by omega)) (by rfl) gBw FBw.kp bBw .nil pass0 (pa_cons (pv 0) (pa_cons (pv 1) (pa_cons (pe_int) pa_nil)))))))
      (pss_cons (ps_for PassesOwn.never rfl (pi_list (pv 2)) (pg_name (i := 3) scMR.nd rfl (.inl rfl))
        (pss_one (ps_if (pt_not (pt_val (pe_callG GEq hgd (hr.mono (by omega)) (by rfl) gEq FEq.kp bEq (pa_cons (pe_call GMd (hr.mono (by omega)) (by rfl) gMd FMd.kp bMd .nil pass0 (pa_cons (pv 3) pa_nil)) (pa_cons (pe_call GLF (hr.mono (by omega)) (by rfl) gLF FLF.kp bLF .nil pass0 (pa_cons (pv 3) pa_nil)) pa_nil)))))
          (pss_one (ps_ret (pe_bl))) pss_nil)))
      (pss_one (ps_ret (pe_bl))))), ?_⟩
    obtain ⟨cs, gs⟩ := x
    have hi : Dp K H (.ref i) (dInst cs gs) := hi
    obtain ⟨_, ca, ga, xs, e, hii, hc, hgt, hgs⟩ := inst_open hi
    cases e
    have ok : InsOk cs gs := io.ok
    have c6 := ok.c6
    have c1 := ok.c1
    have g10 := ok.g10
    have lx := DpAll.len hgs
    rw [List.length_map] at lx
    refine ⟨.ref i, rfl, .ref i, rfl, i, _, rfl, hii, fun L1 nL1 mL1 => ⟨.ref i, rfl, 1, rfl, ?_⟩⟩
    have s1 := sameNew (o := .lst [V.ref ca, V.ref ga]) nL1
    have eL1 : (upd H L1 (.lst [V.ref ca, V.ref ga])) L1 = some (.lst [V.ref ca, V.ref ga]) := upd_same
    generalize upd H L1 (.lst [V.ref ca, V.ref ga]) = H1 at s1 eL1 ⊢
    dsimp only [tNoPart]
    refine take_eq ((TupK.of s1).sq hii) 1 (fun H2 b2 s2 hb2 => ?_)
    have s02 := s1.trans s2
    refine ⟨.ref i, rfl, i, _, 0, .ref ca, rfl, rfl, (TupK.of s02).sq hii, atI_nat (j := 0) rfl, Nat.zero_le _, fun E1 nE1 => ⟨(show (2 : Nat) ≤ sizeLine by decide), fun T1 nT1 => ⟨Nat.zero_le _, fun E2 nE2 => ?_⟩⟩⟩
    have sE1 := sameNew (o := .tup []) nE1
    have hE1 : SqT K (upd H2 E1 (.tup [])) E1 [] := SqT.of upd_same
    generalize upd H2 E1 (.tup []) = H3 at sE1 hE1 nT1 nE2 ⊢
    have sT1 := sameNew (o := .tup [V.ref ca, V.ref E1]) nT1
    have hT1 : SqT K (upd H3 T1 (.tup [V.ref ca, V.ref E1])) T1 [V.ref ca, V.ref E1] := SqT.of upd_same
    generalize upd H3 T1 (.tup [V.ref ca, V.ref E1]) = H4 at sT1 hT1 nE2 ⊢
    have sE2 := sameNew (o := .tup []) nE2
    have hE2 : SqT K (upd H4 E2 (.tup [])) E2 [] := SqT.of upd_same
    generalize upd H4 E2 (.tup []) = H5 at sE2 hE2 ⊢
    have s05 := s02.trans (sE1.trans (sT1.trans sE2))
    refine ⟨.ref i, rfl, i, _, 1, .ref ga, rfl, rfl, (TupK.of s05).sq hii, atI_nat (j := 1) rfl, (show (2 : Nat) ≤ sizeLine by decide), fun T2 nT2 D3 nD3 => ?_⟩
    have sT2 := sameNew (o := .tup [V.ref E2, V.ref ga]) nT2
    have hT2 : SqT K (upd H5 T2 (.tup [V.ref E2, V.ref ga])) T2 [V.ref E2, V.ref ga] := SqT.of upd_same
    generalize upd H5 T2 (.tup [V.ref E2, V.ref ga]) = H6 at sT2 hT2 nD3 ⊢
    have sD3 := sameNew (o := .dK []) nD3
    have eD3 : (upd H6 D3 (.dK [])) D3 = some (.dK []) := upd_same
    generalize upd H6 D3 (.dK []) = H7 at sD3 eD3 ⊢
    have s07 := s05.trans (sT2.trans sD3)
    have hcn : cs.map V.int ≠ [] := by intro z; have := congrArg List.length z; simp at this; rw [this] at c1; simp at c1
    refine ⟨.ref i, rfl, i, _, 0, .ref ca, rfl, rfl, (TupK.of s07).sq hii, atI_nat (j := 0) rfl, ca, 7, _, rfl, rfl, (TupK.of s07).sq hc, hcn, by decide, by rw [List.length_map]; omega, fun z => absurd z (by decide), fun _ R nR => ⟨(show (2 : Nat) ≤ sizeLine by decide), fun T3 nT3 => ⟨(show (7 : Nat) ≤ sizeLine by decide), fun LV nLV => ?_⟩⟩⟩
    obtain ⟨rep, hrep, lrep⟩ : ∃ rep : List Int, (List.replicate 7 (cs.map V.int)).flatten = rep.map V.int ∧ rep.length ≤ 42 := by
      refine ⟨(List.replicate 7 cs).flatten, ?_, ?_⟩
      · simp only [List.replicate, List.flatten_cons, List.flatten_nil, List.map_append, List.map_nil]
      · simp only [List.replicate, List.flatten_cons, List.flatten_nil, List.length_append, List.length_nil]; omega
    rw [hrep] at nT3 nLV ⊢
    have sR := sameNew (o := .tup (rep.map V.int)) nR
    have hR : SqT K (upd H7 R (.tup (rep.map V.int))) R (rep.map V.int) := SqT.of upd_same
    generalize upd H7 R (.tup (rep.map V.int)) = H8 at sR hR nT3 nLV ⊢
    have sT3 := sameNew (o := .tup [V.ref R, .int 5]) nT3
    have hT3 : SqT K (upd H8 T3 (.tup [V.ref R, .int 5])) T3 [V.ref R, .int 5] := SqT.of upd_same
    generalize upd H8 T3 (.tup [V.ref R, .int 5]) = H9 at sT3 hT3 nLV ⊢
    have s09 := s07.trans (sR.trans sT3)
    generalize hvals : [V.ref i, .ref L1, .ref b2, .ref T1, .ref T2, .ref D3, .ref T3] = vals at nLV ⊢
    have lvals : vals.length = 7 := by rw [← hvals]; rfl
    have hT9 := hT.same s09
    have oLV := hT9.off nLV
    have sLV := sameNew (o := .lst vals) nLV
    have s0L := s09.trans sLV
    have eLV : (upd H9 LV (.lst vals)) LV = some (.lst vals) := upd_same
    have hTL := hT9.same sLV
    have l1L := s02.trans (sE1.trans (sT1.trans sE2))
    -- the seven values
    have all7 : ∀ (D : Addr) (Hz : Hp), Same (upd H9 LV (.lst vals)) Hz → H L1 = none → (∀ a o, (upd H9 LV (.lst vals)) a = some o → a ≠ D) → ∃ ds, DqAll K st D Hz vals ds ∧ ∀ d ∈ ds, Nar 50 d := by
      intro D Hz sz _ hD
      have s0z := s0L.trans sz
      have dca : Dq K st D Hz (.ref ca) (dI cs) := Dq.of_dp (to_dI _) (dI_sq ((TupK.of s0z).sq hc))
      have dga : Dq K st D Hz (.ref ga) (.tuple (gs.map dGrp)) := .tup ((TupK.of s0z).sq hgt) (DqAll.of_dp (to_grps gs) ((TupK.of s0z).dpAll _ _ (to_grps gs) hgs))
      have nca : Nar 50 (dI cs) := nar_ints (by omega)
      have nin : Nar 50 (dInst cs gs) := (nar_inst io).mono (by decide)
      have nga : Nar 50 (.tuple (gs.map dGrp)) := nin.parts.2 _ (by simp)
      have s6z := (sD3.trans (sR.trans sT3)).trans (sLV.trans sz)
      have s5z := sT2.trans s6z
      have s4z := sE2.trans s5z
      have s3z := sT1.trans s4z
      have s1z := s2.trans (sE1.trans s3z)
      have eL1z := s1z _ _ eL1
      have oL1 : L1 ≠ st := hT.off nL1
      have oD1 : L1 ≠ D := hD _ _ ((s2.trans (sE1.trans (sT1.trans (sE2.trans (sT2.trans (sD3.trans (sR.trans (sT3.trans sLV)))))))) _ _ eL1)
      have dE1 : Dq K st D Hz (.ref E1) (.tuple []) := .tup ((TupK.of s3z).sq hE1) .nil
      have dE2 : Dq K st D Hz (.ref E2) (.tuple []) := .tup ((TupK.of s5z).sq hE2) .nil
      have n0 : Nar 50 (.tuple []) := .tup (Nat.zero_le _) fun e he => by cases he
      have dR : Dq K st D Hz (.ref R) (dI rep) := Dq.of_dp (to_dI _) (dI_sq ((TupK.of (sT3.trans (sLV.trans sz))).sq hR))
      have nR2 : Nar 50 (dI rep) := nar_ints (by omega)
      rw [← hvals]
      refine ⟨[dInst cs gs, .list [dI cs, .tuple (gs.map dGrp)], .tuple [dI cs], .tuple [dI cs, .tuple []], .tuple [.tuple [], .tuple (gs.map dGrp)], .dict [], .tuple [dI rep, .int 5]], ?_, ?_⟩
      · exact .cons (.tup ((TupK.of s0z).sq hii) (.cons dca (.cons dga .nil))) (.cons (.lst eL1z oL1 oD1 mL1 (.cons dca (.cons dga .nil))) (.cons (.tup ((TupK.of (sE1.trans s3z)).sq hb2) (.cons dca .nil)) (.cons (.tup ((TupK.of s4z).sq hT1) (.cons dca (.cons dE1 .nil))) (.cons (.tup ((TupK.of s6z).sq hT2) (.cons dE2 (.cons dga .nil)))
          (.cons (.dct (kvs := []) ((sR.trans (sT3.trans (sLV.trans sz))) _ _ eD3)) (.cons (.tup ((TupK.of (sLV.trans sz)).sq hT3) (.cons dR (.cons (.int 5) .nil))) .nil))))))
      · intro d hd
        simp only [List.mem_cons, List.not_mem_nil, or_false] at hd
        have two : ∀ {a b : PyData}, Nar 50 a → Nar 50 b → Nar 50 (.tuple [a, b]) := fun ha hb => .tup (by simp) fun e he => by
          simp only [List.mem_cons, List.not_mem_nil, or_false] at he
          rcases he with rfl | rfl
          · exact ha
          · exact hb
        rcases hd with rfl | rfl | rfl | rfl | rfl | rfl | rfl
        · exact nin
        · exact .flat (fun _ z => by cases z)
        · exact .tup (by simp) fun e he => by rw [List.mem_singleton.mp he]; exact nca
        · exact two nca n0
        · exact two n0 nga
        · exact .flat (fun _ z => by cases z)
        · exact two nR2 .int
    have iiL := (TupK.of s0L).sq hii
    have inL : Dp K (upd H9 LV (.lst vals)) (.ref i) (dI2 (cs, gs)) := (TupK.of s0L).dp _ _ (to_dInst _ _) hi
    have nL1' : H L1 = none := nL1
    have X0L : Ex1 st H (upd H9 LV (.lst vals)) := Ex1.of s0L
    generalize upd H9 LV (.lst vals) = HL at *
    dsimp only [gName]
    refine ⟨.ref LV, rfl, 6, rfl, by decide, by decide, fun D nD => lc_it (walk_range (lo := 0) (n := (6 : Int).toNat))
      (fun k Hx => ∃ (zs : List V) (es : List PyData), DT Hx st (t + 20 * k) ∧ Ex1 st HL Hx ∧ Hx D = some (.lst zs) ∧ zs.length = k ∧ DqAll K st D Hx zs es ∧ ∀ e ∈ es, Nar 50 e)
      ⟨[], [], hTL.new nD, Ex1.of (sameNew nD), upd_same, rfl, .nil, fun e h => by simp at h⟩ (fun _ _ _ _ => trivial) ?_ ?_⟩
    · rintro k v Hx Hx' hk ⟨zs, es, Dx, Xx, eD, lz, dz, nz⟩ ⟨rfl, rfl⟩
      have hk : k < (6 : Int).toNat := hk
      have hk : k < 6 := hk
      have oD := hTL.off nD
      have dIx : Dp K Hx' (.ref i) (dI2 (cs, gs)) := (Xx.tup hTL).dp _ _ (to_dInst _ _) inL
      refine ⟨rfl, .ref st, rfl, .ref i, rfl, st, D, t + 20 * k, 4, 10, 5, 20000, .ref i, dI2 (cs, gs), rfl, Dx, by rw [eD]; simp, oD, by omega, by decide, Dq.of_dp (to_dInst _ _) dIx, ⟨nar_inst io, fit_inst io⟩, by decide, by decide, by decide, by decide, fun H3 v3 d3 D3 X3 hv3 hb3 => ?_⟩
      have e3 := X3 _ _ eD oD
      have lp := Lasts.putD (st := st) (ys := zs ++ [v3]) e3
      refine ⟨_, e3, small (by omega), zs ++ [v3], es ++ [d3], (D3.put oD).mono (by omega), (Xx.trans X3).put nD, upd_same, by simp [lz], ((dz.lasts (Lasts.of1r Dx X3)).lasts lp).app (.cons (hv3.lasts lp) .nil), fun e he => ?_⟩
      rcases List.mem_append.mp he with h | h
      · exact nz e h
      · rw [List.mem_singleton.mp h]; exact hb3.na.mono (by decide)
    rintro H2 ⟨zs, es, D2, X2, eD, lz, dz, nz⟩
    have oD := hTL.off nD
    obtain ⟨ds7, h7, n7⟩ := all7 D HL (Same.refl _) nL1' (fun a o e => ne_of_none e nD)
    refine ⟨LV, D, vals, zs, rfl, rfl, X2 _ _ eLV oLV, eD, Nat.le_of_lt (small (by omega)), fun LW nLW => ?_⟩
    have sLW := sameNew (o := .lst (vals ++ zs)) nLW
    have hall : DqAll K st D (upd H2 LW (.lst (vals ++ zs))) (vals ++ zs) (ds7 ++ es) := ((h7.lasts (Lasts.of1r hTL X2)).app dz).lasts (Lasts.of sLW)
    have eLW : (upd H2 LW (.lst (vals ++ zs))) LW = some (.lst (vals ++ zs)) := upd_same
    have DW := D2.same sLW
    have XW := (X0L.trans X2).trans (Ex1.of sLW)
    generalize upd H2 LW (.lst (vals ++ zs)) = HW at hall eLW DW XW ⊢
    refine ⟨.ref LW, rfl, LW, rfl, ⟨_, SqL.of eLW⟩, for_it (walk_list (K := K) (a := LW) (xs := vals ++ zs))
      (fun k σ Hx => ∃ y3 y4, σ = [some (.ref st), some (.ref i), some (.ref LW), y3, y4] ∧ Same HW Hx) ⟨_, _, rfl, Same.refl _⟩ (fun k σ Hx _ h => by obtain ⟨_, _, _, s⟩ := h; exact SqL.of (s _ _ eLW)) ?_ ?_⟩
    · rintro k v σ Hx H1 hk ⟨y3, y4, rfl, sx⟩ ⟨rfl, hv⟩
      obtain ⟨d, hd, hdv⟩ := DqAll.at (hall.lasts (Lasts.of sx)) hv
      have hn : Nar 50 d := by
        rcases List.mem_append.mp (List.mem_of_getElem? hd) with h | h
        · exact n7 d h
        · exact nz d h
      refine ⟨v, rfl, st, D, v, d, rfl, hdv, fun H3 x3 s3 hx3 => ⟨v, rfl, st, D, v, d, rfl, hdv.lasts (Lasts.of s3), hn, fun H4 x4 s4 hx4 => ?_⟩⟩
      exact ⟨st, D, x3, x4, optD (instE d), rfl, Dq.of_dp (to_inst d) ((TupK.of s4).dp _ _ (to_inst d) hx3), Dq.of_dp (to_inst d) hx4, wr_inst d, _, rfl, iteF ⟨_, _, rfl, sx.trans (s3.trans s4)⟩⟩
    rintro σ Hf ⟨y3, y4, rfl, sx⟩
    exact q Hf ((DW.same sx).mono (by omega)) (XW.trans (Ex1.of sx))
end
end Pv
namespace Pv
open PySem PySem.Spec PyProof.Rows L2
abbrev sLaw : Stmt := topS 99
theorem scLaw : FnScope ["_law_script", "_law_turn", "_law_stream_here", "_law_instance_here", "_law_bench", "_law_done", "_law_k", "_law_edit", "_law_before", "_law_due_here"] ["_law_script"] (defScope sLaw) := ⟨rfl, rfl, rfl, by decide +kernel, rfl, by decide +kernel, by decide +kernel⟩
theorem inst_none {x : Ins} (io : InOk x.1 x.2) : instE (dI2 x) = none := by
  obtain ⟨cs, gs⟩ := x
  have ok : InsOk cs gs := io.ok
  have nd : ∀ g ∈ gs, g.1.Nodup := io.nd
  have c1 := ok.c1
  have c6 := ok.c6
  have g1 := ok.g1
  have g10 := ok.g10
  have hp : postsE (dI cs) = none := by
    unfold postsE
    have ht : tupOfD 1 6 (dI cs) = true := by
      show decide _ = true
      apply decide_eq_true
      rw [List.length_map]; omega
    rw [if_pos ht]
    refine firstErr_none fun j d hj => ?_
    have hj : (cs.map PyData.int)[j]? = some d := hj
    rw [List.getElem?_map] at hj
    obtain ⟨c, hc, rfl⟩ := Option.map_eq_some_iff.mp hj
    have b := ok.cb c (List.mem_of_getElem? hc)
    unfold capE
    rw [if_pos]
    show decide _ = true
    exact decide_eq_true (by unfold bigI; omega)
  show instE (.tuple [dI cs, .tuple (gs.map dGrp)]) = none
  rw [instE_pair, hp]
  show groupsE (((cs.map PyData.int).length : Nat) : Int) (.tuple (gs.map dGrp)) = none
  rw [List.length_map]
  unfold groupsE
  have ht : tupOfD 1 10 (.tuple (gs.map dGrp)) = true := by
    show decide _ = true
    apply decide_eq_true
    rw [List.length_map]; omega
  rw [if_pos ht]
  refine firstErr_none fun j d hj => ?_
  have hj : (gs.map dGrp)[j]? = some d := hj
  rw [List.getElem?_map] at hj
  obtain ⟨g, hg, rfl⟩ := Option.map_eq_some_iff.mp hj
  have hm := List.mem_of_getElem? hg
  have b := ok.gp g hm
  have hl : listD ((cs.length : Nat) : Int) (dI g.1) = true := by
    show listD _ (.tuple (g.1.map .int)) = true
    rw [listD_ints, Bool.and_eq_true, List.all_eq_true]
    refine ⟨fun p hp => decide_eq_true ?_, decide_eq_true (nd g hm)⟩
    have := b.2.1 p hp; omega
  have hw : withinD 1 bigI (.int g.2) = true := by
    show decide _ = true
    exact decide_eq_true (by unfold bigI; omega)
  show grpE _ _ (.tuple [dI g.1, .int g.2]) = none
  unfold grpE
  simp only [hl, hw, if_true]
theorem sqL_same {K : PySem.W.Frag} {H H' : Hp} {a : Addr} {xs : List V} (s : Same H H') (h : SqL K H a xs) : SqL K H' a xs := by
  rcases h with (h | ⟨o, h⟩) | h
  · exact .inl (.inl (s _ _ h))
  · exact .inl (.inr ⟨o, s _ _ h⟩)
  · exact .inr h
def spLaw (K : PySem.W.Frag) : Sp := fun vs H Q _ => ∃ (a : Addr) (ns : List Int), vs = [.ref a] ∧ SqL K H a (ns.map V.int) ∧ ns.length ≤ 63 ∧ ∀ H', Q (.bl true) H'
theorem nm_ne : ∀ k, ¬ nmE k = "state"
  | 0 => by decide +kernel
  | 1 => by decide +kernel
  | 2 => by decide +kernel
  | 3 => by decide +kernel
  | 4 => by decide +kernel
  | _ + 5 => by show ¬ (("LastOne" : Str) = "state"); decide +kernel
theorem nm_fit (k : Nat) : fit (10 ^ 30) (.str (nmE k)) ∧ wt (.str (nmE k)) ≤ 400 := by
  have h : ∀ j, (reprText (nmE j)).length ≤ 100 := by
    intro j
    match j with
    | 0 => decide +kernel
    | 1 => decide +kernel
    | 2 => decide +kernel
    | 3 => decide +kernel
    | 4 => decide +kernel
    | n + 5 => show (reprText ("LastOne" : Str)).length ≤ 100; decide +kernel
  have hk := h k
  exact ⟨by unfold Pv.fit; exact Nat.le_trans hk (by decide), by unfold Pv.wt; exact Nat.le_refl _⟩
theorem ed_str (w : Nat) : fit (10 ^ 30) (.str (edW w)) ∧ wt (.str (edW w)) ≤ 400 := by
  have h : ∀ j, (reprText (edW j)).length ≤ 100 := by
    intro j
    match j with
    | 0 => decide +kernel
    | 1 => decide +kernel
    | 2 => decide +kernel
    | 3 => decide +kernel
    | 4 => decide +kernel
    | 5 => decide +kernel
    | n + 6 => show (reprText ("remove_post" : Str)).length ≤ 100; decide +kernel
  have hk := h w
  exact ⟨by unfold Pv.fit; exact Nat.le_trans hk (by decide), by unfold Pv.wt; exact Nat.le_refl _⟩
theorem wr_tup3 {a b c : PyData} (ha : Fit (10 ^ 30) 2 600 a) (hb : Fit (10 ^ 30) 2 600 b) (hc : Fit (10 ^ 30) 2 600 c) : Wr (.tuple [a, b, c]) := by
  refine Wr.fit (W := 3000) (Fit.tup (fun d hd => ?_) (by decide) ?_) (by decide)
  · simp only [List.mem_cons, List.not_mem_nil, or_false] at hd
    rcases hd with rfl | rfl | rfl
    · exact ⟨ha.ok, Nat.succ_le_succ ha.dp⟩
    · exact ⟨hb.ok, Nat.succ_le_succ hb.dp⟩
    · exact ⟨hc.ok, Nat.succ_le_succ hc.dp⟩
  · have := ha.wt
    have := hb.wt
    have := hc.wt
    simp only [wtAll]; omega
theorem wr_tup2 {a b : PyData} (ha : Fit (10 ^ 30) 2 600 a) (hb : Fit (10 ^ 30) 2 600 b) : Wr (.tuple [a, b]) := by
  refine Wr.fit (W := 3000) (Fit.tup (fun d hd => ?_) (by decide) ?_) (by decide)
  · simp only [List.mem_cons, List.not_mem_nil, or_false] at hd
    rcases hd with rfl | rfl
    · exact ⟨ha.ok, Nat.succ_le_succ ha.dp⟩
    · exact ⟨hb.ok, Nat.succ_le_succ hb.dp⟩
  · have := ha.wt
    have := hb.wt
    simp only [wtAll]; omega
theorem wr_tup1 {a : PyData} (ha : Fit (10 ^ 30) 2 600 a) : Wr (.tuple [a]) := by
  refine Wr.fit (W := 3000) (Fit.tup (fun d hd => ?_) (by decide) ?_) (by decide)
  · rw [List.mem_singleton.mp hd]; exact ⟨ha.ok, Nat.succ_le_succ ha.dp⟩
  · have := ha.wt
    simp only [wtAll]; omega
theorem fit_str {x : Str} (h : fit (10 ^ 30) (.str x) ∧ wt (.str x) ≤ 400) : Fit (10 ^ 30) 2 600 (.str x) := ⟨h.1, by simp [PyData.depth], by have := h.2; omega⟩
theorem wr_ed {w : Nat} {d1 d2 : PyData} (h1 : Nw d1) (h2 : Nw d2) : Wr (dEd w d1 d2) := by
  unfold dEd
  by_cases h : w < 4
  · rw [if_pos h]; exact wr_tup3 (fit_str (ed_str w)) h1.ft h2.ft
  · rw [if_neg h]; exact wr_tup2 (fit_str (ed_str w)) h1.ft
theorem ed_dp {K : PySem.W.Frag} {H : Hp} {st r ed : Addr} {w : Nat} {v1 v2 : V} {d1 d2 : PyData} (hE : EdIn K H st r ed w v1 v2 d1 d2) (ta1 : tupOnly d1 = true) (ta2 : w < 4 → tupOnly d2 = true) : Dp K H (.ref ed) (dEd w d1 d2) := by
  refine .tup hE.sq (.cons (.str _) ?_)
  unfold edArgs
  by_cases h4 : w < 4
  · rw [if_pos h4, if_pos h4]
    exact .cons (Dq.to_dp ta1 hE.h1) (.cons (Dq.to_dp (ta2 h4) (hE.h2 h4)) .nil)
  · rw [if_neg h4, if_neg h4]
    exact .cons (Dq.to_dp ta1 hE.h1) .nil
theorem EdIn.dq {K : PySem.W.Frag} {H : Hp} {st r ed : Addr} {w : Nat} {v1 v2 : V} {d1 d2 : PyData} (h : EdIn K H st r ed w v1 v2 d1 d2) : Dq K st r H (.ref ed) (dEd w d1 d2) := by
  refine .tup h.sq (.cons (.str _) ?_)
  unfold edArgs
  by_cases h4 : w < 4
  · rw [if_pos h4, if_pos h4]; exact .cons h.h1 (.cons (h.h2 h4) .nil)
  · rw [if_neg h4, if_neg h4]; exact .cons h.h1 .nil
def valD (p : Nat) (d1 d2 : PyData) : PyData := if p = 1 then d1 else if p = 2 then d2 else if p = 3 then .int 6 else .int 10
def errD (cp : Nat × Nat) (d1 d2 : PyData) : PyData := .tuple (.str (nmE cp.1) :: if cp.2 = 0 then [] else [valD cp.2 d1 d2])
theorem nw_val {p : Nat} {d1 d2 : PyData} (h1 : Nw d1) (h2 : Nw d2) : Fit (10 ^ 30) 2 600 (valD p d1 d2) := by
  unfold valD
  split
  · exact h1.ft
  split
  · exact h2.ft
  split
  · exact Fit.int (by decide) (by decide)
  · exact Fit.int (by decide) (by decide)
theorem wr_err {cp : Nat × Nat} {d1 d2 : PyData} (h1 : Nw d1) (h2 : Nw d2) : Wr (errD cp d1 d2) := by
  unfold errD
  by_cases h : cp.2 = 0
  · rw [if_pos h]; exact wr_tup1 (fit_str (nm_fit _))
  · rw [if_neg h]; exact wr_tup2 (fit_str (nm_fit _)) (nw_val h1 h2)
/-- only an edit with two arguments names the second one in an error -/
theorem ef_two {x : Ins} {w : Nat} {d1 d2 : PyData} {cp : Nat × Nat} (hw : w < 7) (h : edFail x w d1 d2 = some cp) (h2 : cp.2 = 2) : w < 4 := by
  have h7 : w = 0 ∨ w = 1 ∨ w = 2 ∨ w = 3 ∨ w = 4 ∨ w = 5 ∨ w = 6 := by omega
  rcases h7 with rfl | rfl | rfl | rfl | rfl | rfl | rfl
  · decide
  · decide
  · decide
  · decide
  all_goals
    simp only [edFail] at h
    repeat' split at h
    all_goals first | (cases h; exact absurd h2 (by decide)) | cases h
theorem dq_err {K : PySem.W.Frag} {H : Hp} {st r p : Addr} {w : Nat} {cp : Nat × Nat} {v1 v2 : V} {d1 d2 : PyData} (h : SqT K H p (errV cp v1 v2)) (h1 : Dq K st r H v1 d1) (h2 : w < 4 → Dq K st r H v2 d2) (ht : cp.2 = 2 → w < 4) : Dq K st r H (.ref p) (errD cp d1 d2) := by
  refine .tup h (.cons (.str _) ?_)
  by_cases h0 : cp.2 = 0
  · rw [if_pos h0, if_pos h0]; exact .nil
  · rw [if_neg h0, if_neg h0]
    refine .cons ?_ .nil
    unfold valP valD
    by_cases e1 : cp.2 = 1
    · rw [if_pos e1, if_pos e1]; exact h1
    rw [if_neg e1, if_neg e1]
    by_cases e2 : cp.2 = 2
    · rw [if_pos e2, if_pos e2]; exact h2 (ht e2)
    rw [if_neg e2, if_neg e2]
    by_cases e3 : cp.2 = 3
    · rw [if_pos e3, if_pos e3]; exact .int _
    · rw [if_neg e3, if_neg e3]; exact .int _
structure LawJ (K : PySem.W.Frag) (C : Addr) (H0 : Hp) (st ob i M : Addr) (t : Nat) (Hx : Hp) (ins : List Ins) (eds : List PyData) : Prop where
  sm : Same H0 Hx
  dt : DT Hx st t
  bn : BnAt K C Hx ob ins eds false
  ok : BnOk ins eds
  ef : EdsF eds
  di : Dp K Hx (.ref i) (dI2 (lastI ins))
  dm : Dp K Hx (.ref M) (.tuple eds)
theorem LawJ.same {K : PySem.W.Frag} {C : Addr} {H0 : Hp} {st ob i M : Addr} {t t' : Nat} {Hx H' : Hp} {ins : List Ins} {eds : List PyData} (J : LawJ K C H0 st ob i M t Hx ins eds) (s : Same Hx H') (h : t ≤ t') : LawJ K C H0 st ob i M t' H' ins eds :=
  ⟨J.sm.trans s, (J.dt.same s).mono h, J.bn.same s J.ok.to, J.ok, J.ef, (TupK.of s).dp _ _ (to_dInst _ _) J.di, (TupK.of s).dp _ _ (show tupOnly (.tuple eds) = true from J.ok.to) J.dm⟩
theorem LawJ.ex {K : PySem.W.Frag} {C : Addr} {H0 : Hp} {st ob i M : Addr} {t t' : Nat} {Hx H' : Hp} {ins : List Ins} {eds : List PyData} (J : LawJ K C H0 st ob i M t Hx ins eds) (n1 : H0 st = none) (x : Ex1 st Hx H') (d : DT H' st t') : LawJ K C H0 st ob i M t' H' ins eds := by
  obtain ⟨dx, S, M', sv, mv, e2, _⟩ := J.bn.ob
  have nso : ob ≠ st := fun z => by obtain ⟨r, m, u, e, _⟩ := J.dt; rw [z, e] at e2; cases e2
  have tk := x.tup J.dt
  exact ⟨fun b o e => x _ _ (J.sm _ _ e) (ne_of_none e n1), d, J.bn.keep (fun o e => x _ _ e nso) tk J.ok.to, J.ok, J.ef, tk.dp _ _ (to_dInst _ _) J.di, tk.dp _ _ (show tupOnly (.tuple eds) = true from J.ok.to) J.dm⟩
section
variable {P : Program} {w : World} {K : PySem.W.Frag} {mg : Str → Option Value} {base : Heap}
set_option maxHeartbeats 16000000 in
theorem ok_Eq3 {f : Addr} {fd : FuncData} (F : Fun K "_law_equal" "_law_equal" sEq f fd)
    (m_repr : mg "repr" = none) :
    FnG P w K mg base 1 f fd ["_law_one", "_law_other"] (spEq3 K) := by
  refine okG F scEq (fun vs H Q E h => ?_) (fun cdv A outer s H vs Q E hgd hr h => ?_)
  · obtain ⟨st, r, a, b, d, rfl, _⟩ := h; rfl
  · obtain ⟨st, r, a, b, d, rfl, ha, hb, hf, q⟩ := h
    refine ⟨_, pss_one (ps_ret (pe_cmpR op_eq (pe_callB (call_reprR hgd (hu70 hr)) (by rfl) m_repr (by decide +kernel) (pa_cons (pv 0) pa_nil)) (pe_callB (call_reprR hgd (hu70 hr)) (by rfl) m_repr (by decide +kernel) (pa_cons (pv 1) pa_nil)) (nomark _))), ?_⟩
    obtain ⟨w1, w2, w3⟩ := hf
    refine ⟨a, rfl, a, d, st, r, rfl, ha, w1, w2, w3, b, rfl, b, d, st, r, rfl, hb, w1, w2, w3, rfl, ?_⟩
    have e : decide (V.str d.shown = V.str d.shown) = true := str_t _
    rw [e]; exact q
set_option maxHeartbeats 16000000 in
theorem ok_Law {cBI : Addr} {f fSt fIn fBI fTa fSE fSp fDu fAs fEq fSe fDS fMR : Addr} {fd fdSt fdIn fdBI fdTa fdSE fdSp fdDu fdAs fdEq fdSe fdDS fdMR : FuncData} {cB : Addr} (T : BBx K mg cB) (F : Fun K "law" "law" sLaw f fd)
    (FSt : Fun K "_law_stream" "_law_stream" sSt fSt fdSt) (bSt : Binds K fdSt ["_law_script", "_law_turn"] []) (gSt : mg "_law_stream" = some (.ref fSt)) (GSt : FnOk P w K mg base CX0 1 fSt fdSt ["_law_script", "_law_turn"] (spSt K))
    (FIn : Fun K "_law_instance" "_law_instance" sIn fIn fdIn) (bIn : Binds K fdIn ["_law_stream_here", "_law_posts", "_law_groups"] []) (gIn : mg "_law_instance" = some (.ref fIn)) (GIn : FnOk P w K mg base CX0 3 fIn fdIn ["_law_stream_here", "_law_posts", "_law_groups"] (spIn K))
    (FBI : Fun K "__init__" "Bench.__init__" sBI fBI fdBI) (bBI : Binds K fdBI ["self", "instance"] []) (mBI : Mk K cB fBI) (GBI : FnOk P w K mg base (CX P w) 6 fBI fdBI ["self", "instance"] (spBI K cB cBI))
    (FTa : Fun K "_law_take" "_law_take" sTa fTa fdTa) (bTa : Binds K fdTa ["_law_stream_here", "_law_many"] []) (gTa : mg "_law_take" = some (.ref fTa)) (GTa : FnOk P w K mg base CX0 1 fTa fdTa ["_law_stream_here", "_law_many"] spTa)
    (FSE : Fun K "_law_some_edit" "_law_some_edit" sSE fSE fdSE) (bSE : Binds K fdSE ["_law_stream_here", "_law_instance_here", "_law_words"] []) (gSE : mg "_law_some_edit" = some (.ref fSE)) (GSE : FnOk P w K mg base CX0 3 fSE fdSE ["_law_stream_here", "_law_instance_here", "_law_words"] (spSE K))
    (FSp : Fun K "_law_spoilt" "_law_spoilt" sSp fSp fdSp) (bSp : Binds K fdSp ["_law_stream_here", "_law_edit"] []) (gSp : mg "_law_spoilt" = some (.ref fSp)) (GSp : FnOk P w K mg base CX0 3 fSp fdSp ["_law_stream_here", "_law_edit"] (spSp K))
    (FDu : Fun K "_law_due" "_law_due" sDu fDu fdDu) (bDu : Binds K fdDu ["_law_instance_here", "_law_edit"] []) (gDu : mg "_law_due" = some (.ref fDu)) (GDu : FnOk P w K mg base CX0 4 fDu fdDu ["_law_instance_here", "_law_edit"] (spDue K))
    (FAs : Fun K "_law_asked" "_law_asked" sAs fAs fdAs) (bAs : Binds K fdAs ["_law_bench", "_law_edit"] []) (gAs : mg "_law_asked" = some (.ref fAs)) (GAs : FnOk P w K mg base CX0 10 fAs fdAs ["_law_bench", "_law_edit"] (spAs K cB))
    (FEq : Fun K "_law_equal" "_law_equal" sEq fEq fdEq) (bEq : Binds K fdEq ["_law_one", "_law_other"] []) (gEq : mg "_law_equal" = some (.ref fEq)) (GEq : FnG P w K mg base  1 fEq fdEq ["_law_one", "_law_other"] (spEq3 K))
    (FSe : Fun K "_law_seen" "_law_seen" sSe fSe fdSe) (bSe : Binds K fdSe ["_law_bench"] []) (gSe : mg "_law_seen" = some (.ref fSe)) (GSe : FnOk P w K mg base CX0 5 fSe fdSe ["_law_bench"] (spSn K cB))
    (FDS : Fun K "_law_due_seen" "_law_due_seen" sDS fDS fdDS) (bDS : Binds K fdDS ["_law_instance_here", "_law_edits_done"] []) (gDS : mg "_law_due_seen" = some (.ref fDS)) (GDS : FnOk P w K mg base CX0 2 fDS fdDS ["_law_instance_here", "_law_edits_done"] (spDS K))
    (FMR : Fun K "_law_made_right" "_law_made_right" sMR fMR fdMR) (bMR : Binds K fdMR ["_law_stream_here", "_law_instance_here"] []) (gMR : mg "_law_made_right" = some (.ref fMR)) (GMR : FnG P w K mg base  10 fMR fdMR ["_law_stream_here", "_law_instance_here"] (spMR K))
    (m_range : mg "range" = none) (m_repr : mg "repr" = none) (m_len : mg "len" = none) :
    FnG P w K mg base 12 f fd ["_law_script"] (spLaw K) := by
  refine okG F scLaw (fun vs H Q E h => ?_) (fun cdv A outer s H vs Q E hgd hr h => ?_)
  · obtain ⟨a, ns, rfl, _⟩ := h; rfl
  · obtain ⟨a, ns, rfl, hA, hn, q⟩ := h
    refine ⟨_, pss_cons (ps_for PassesOwn.never rfl (pi_range1 (by rfl) m_range (pa_cons (pe_int) pa_nil)) (pg_name (i := 1) scLaw.nd rfl (.inl rfl))
        (pss_cons (ps_set (i := 2) scLaw.nd rfl (.inl rfl) (pe_call GSt (hr.mono (by omega)) (by rfl) gSt FSt.kp bSt .nil pass0 (pa_cons (pv 0) (pa_cons (pv 1) pa_nil))))
        (pss_cons (ps_set (i := 3) scLaw.nd rfl (.inl rfl) (pe_call GIn (hr.mono (by omega)) (by rfl) gIn FIn.kp bIn .nil pass0 (pa_cons (pv 2) (pa_cons (pe_int) (pa_cons (pe_int) pa_nil)))))
        (pss_cons (ps_set (i := 4) scLaw.nd rfl (.inl rfl) (pe_make mBI GBI (hr.mono (by omega)) (by rfl) T.mgC bBI .nil passL (pa_cons (pv 3) pa_nil)))
        (pss_cons (ps_set (i := 5) scLaw.nd rfl (.inl rfl) (pe_tup (pa_nil)))
        (pss_cons (ps_for PassesOwn.never rfl (pi_range1 (by rfl) m_range (pa_cons (pe_op op_add (pe_int) (pe_call GTa (hr.mono (by omega)) (by rfl) gTa FTa.kp bTa .nil pass0 (pa_cons (pv 2) (pa_cons (pe_int) pa_nil)))) pa_nil)) (pg_name (i := 6) scLaw.nd rfl (.inl rfl))
          (pss_cons (ps_set (i := 7) scLaw.nd rfl (.inl rfl) (pe_call GSE (hr.mono (by omega)) (by rfl) gSE FSE.kp bSE .nil pass0 (pa_cons (pv 2) (pa_cons (pv 3) (pa_cons (pe_lst (pa_cons (pe_str) (pa_cons (pe_str) (pa_cons (pe_str) pa_nil)))) pa_nil)))))
          (C8.pss_cut (ps_if (pt_cmpR op_eq (pe_call GTa (hr.mono (by omega)) (by rfl) gTa FTa.kp bTa .nil pass0 (pa_cons (pv 2) (pa_cons (pe_int) pa_nil))) (pe_int) (nomark _))
            (pss_one (ps_set (i := 7) scLaw.nd rfl (.inl rfl) (pe_call GSp (hr.mono (by omega)) (by rfl) gSp FSp.kp bSp .nil pass0 (pa_cons (pv 2) (pa_cons (pv 7) pa_nil))))) pss_nil)
          (pss_cons (ps_par (i := 8) (j := 9) rfl scLaw.nd rfl rfl (by decide) rfl rfl (pa_cons (pe_callB (call_reprR hgd (hu70 hr)) (by rfl) m_repr (by decide +kernel) (pa_cons (pv 7) pa_nil)) (pa_cons (pe_call GDu (hr.mono (by omega)) (by rfl) gDu FDu.kp bDu .nil pass0 (pa_cons (pv 3) (pa_cons (pv 7) pa_nil))) pa_nil)) rfl)
          (pss_cons (ps_if (pt_cmpR op_eq (pe_ix ix_tup (pv 9) (pe_int) (fun _ _ => rfl)) (pe_str) (nomark _))
            (pss_cons (ps_par (i := 3) (j := 5) rfl scLaw.nd rfl rfl (by decide) rfl rfl (pa_cons (pe_ix ix_tup (pv 9) (pe_int) (fun _ _ => rfl)) (pa_cons (pe_op op_catA (pv 5) (pe_tup (pa_cons (pv 7) pa_nil))) pa_nil)) rfl)
            (pss_one (ps_set (i := 9) scLaw.nd rfl (.inl rfl) (pe_tup (pa_cons (pe_str) (pa_cons (pe_callB call_lenQ (by rfl) m_len PySem.boot_len (pa_cons (pv 5) pa_nil)) pa_nil)))))) pss_nil)
          (pss_cons (ps_if (PW.pt (pw_or (pt_not (pt_val (pe_callG GEq hgd (hr.mono (by omega)) (by rfl) gEq FEq.kp bEq (pa_cons (pe_call GAs (hr.mono (by omega)) (by rfl) gAs FAs.kp bAs .nil pass0 (pa_cons (pv 4) (pa_cons (pv 7) pa_nil))) (pa_cons (pv 9) pa_nil))))) (pw_or1 (pt_cmpR op_ne (pe_callB (call_reprR hgd (hu70 hr)) (by rfl) m_repr (by decide +kernel) (pa_cons (pv 7) pa_nil)) (pv 8) (nomark _)))))
            (pss_one (ps_ret (pe_bl))) pss_nil)
          (pss_one (ps_if (pt_not (pt_val (pe_callG GEq hgd (hr.mono (by omega)) (by rfl) gEq FEq.kp bEq (pa_cons (pe_call GSe (hr.mono (by omega)) (by rfl) gSe FSe.kp bSe .nil pass0 (pa_cons (pv 4) pa_nil)) (pa_cons (pe_call GDS (hr.mono (by omega)) (by rfl) gDS FDS.kp bDS .nil pass0 (pa_cons (pv 3) (pa_cons (pv 5) pa_nil))) pa_nil)))))
            (pss_one (ps_ret (pe_bl))) pss_nil))))))))
        (pss_one (ps_if (pt_not (pt_val (pe_callG GMR hgd (hr.mono (by omega)) (by rfl) gMR FMR.kp bMR (pa_cons (pv 2) (pa_cons (pv 3) pa_nil)))))
          (pss_one (ps_ret (pe_bl))) pss_nil))))))))
      (pss_one (ps_ret (pe_bl))), ?_⟩
    refine ⟨3, rfl, by decide, by decide, for_it (walk_range (lo := 0) (n := (3 : Int).toNat))
      (fun k σ Hx => ∃ y1 y2 y3 y4 y5 y6 y7 y8 y9 : Option V, σ = [some (.ref a), y1, y2, y3, y4, y5, y6, y7, y8, y9] ∧ Same H Hx)
      ⟨none, none, none, none, none, none, none, none, none, rfl, Same.refl _⟩ (fun _ _ _ _ _ => trivial) ?_ ?_⟩
    · rintro k v σ Hz H0 hk ⟨y1, y2, y3, y4, y5, y6, y7, y8, y9, rfl, s0⟩ ⟨rfl, rfl⟩
      have hk : k < 3 := hk
      have hA0 : SqL K H0 a (ns.map V.int) := sqL_same s0 hA
      refine ⟨.ref a, rfl, .int (0 + (k : Nat)), rfl, a, ns, k, by rw [Int.zero_add]; rfl, hA0, hn, by omega, fun H1 st s1 nst d1 => ?_⟩
      refine ⟨.ref st, rfl, st, 0, 6, 10, rfl, d1, by omega, by decide, by decide, by decide, by decide, fun H2 i x0 hi io d2 x2 => ?_⟩
      have s02 : Same H0 H2 := fun b o e => x2 _ _ (s1 _ _ e) (ne_of_none e nst)
      refine ⟨.ref i, rfl, fun ob dx nob ndx hne => ?_⟩
      have sdx := sameNew (o := .own ob) ndx
      have nob2 : (upd H2 dx (.own ob)) ob = none := by rw [upd_ne hne.symm]; exact nob
      have s23 := sdx.trans (sameNew (o := .ins cB dx []) nob2)
      have nob0 : H0 ob = none := sameNone s02 nob
      refine ⟨st, st, ob, dx, .ref i, dI2 x0, rfl, upd_same, Dq.of_dp (to_dInst _ _) ((TupK.of s23).dp _ _ (to_dInst _ _) hi), fun e1 e2 z => by (rw [inst_none io] at z; cases z), fun _ => ⟨x0, rfl, io, fun H4 hB4 x4 => ⟨rfl, ?_⟩⟩⟩
      have s24 : Same H2 H4 := fun b o e => x4 _ _ (s23 _ _ e) (ne_of_none e nob)
      have hK4 : BnOk [x0] [] := ⟨rfl, by decide, fun x hx => by rw [List.mem_singleton.mp hx]; exact io, rfl⟩
      refine ⟨Nat.zero_le _, fun M nM => ?_⟩
      have sM := sameNew (o := .tup []) nM
      have s25 := s24.trans sM
      have J5 : LawJ K cB H0 st ob i M 200 (upd H4 M (.tup [])) [x0] [] := ⟨s02.trans s25, (d2.same s25).mono (by omega), hB4.same sM rfl, hK4, fun d hd => by simp at hd, (TupK.of s25).dp _ _ (to_dInst _ _) hi, .tup (SqT.of upd_same) .nil⟩
      generalize upd H4 M (.tup []) = H5 at J5 ⊢
      clear hB4 s24 sM s25 x4 s23 sdx nob2 hne ndx hi x2 d2 s02 nob d1 s1
      refine ⟨.ref st, rfl, st, _, 14, rfl, J5.dt, by omega, by decide, by decide, fun H6 c c0 c1 D6 X6 => ⟨_, _, rfl, rfl, 1 + c, rfl, by omega, by omega, ?_⟩⟩
      have J6 := J5.ex nst X6 D6
      refine for_it (walk_range (lo := 0) (n := (1 + c).toNat))
        (fun k2 σ Hx => ∃ (y6 y7 y8 y9 : Option V) (i M : Addr) (ins : List Ins) (eds : List PyData) (t : Nat), σ = [some (.ref a), some (.int (0 + (k : Nat))), some (.ref st), some (.ref i), some (.ref ob), some (.ref M), y6, y7, y8, y9] ∧ LawJ K cB H0 st ob i M t Hx ins eds ∧ t ≤ 300 + 110 * k2 ∧ eds.length ≤ k2)
        ⟨_, _, _, _, i, M, [x0], [], _, rfl, J6, by omega, Nat.zero_le _⟩ (fun _ _ _ _ _ => trivial) ?_ ?_
      · rintro k2 v σ Hy Hx hk2 ⟨y6, y7, y8, y9, i, M, ins, eds, t, rfl, J, ht, le⟩ ⟨rfl, rfl⟩
        have hk2 : k2 < (1 + c).toNat := hk2
        have l1 := J.ok.l1
        have hio := J.ok.io _ (last_in (ins := ins) (by omega))
        refine ⟨.ref st, rfl, .ref i, rfl, (show (3 : Nat) ≤ sizeLine by decide), fun W nW => ?_⟩
        have sW := sameNew (o := .lst (wdV [0, 1, 2])) nW
        have J7 := J.same sW (Nat.le_refl _)
        have nWs : W ≠ st := J.dt.off nW
        refine ⟨st, i, W, t, lastI ins, [0, 1, 2], rfl, J7.dt, by omega, J7.di, hio, upd_same, nWs, by decide, by decide, by decide, fun H8 ed w v1 v2 d1 d2 hE D8 X8 w1 w2 => ?_⟩
        have J8 := J7.ex nst X8 D8
        refine ⟨fun σ' H' => ∃ (ed : Addr) (v1 v2 : V) (d1 d2 : PyData), σ' = [some (.ref a), some (.int (0 + (k : Nat))), some (.ref st), some (.ref i), some (.ref ob), some (.ref M), some (.int (0 + (k2 : Nat))), some (.ref ed), y8, y9] ∧ EdIn K H' st st ed w v1 v2 d1 d2 ∧ Nw d1 ∧ Nw d2 ∧ LawJ K cB H0 st ob i M (t + 41) H' ins eds, ?_, ?_⟩
        · refine ⟨.ref st, rfl, st, _, 4, rfl, J8.dt, by omega, by decide, by decide, fun H9 e e0 e1 D9 X9 => ⟨rfl, _, rfl, ite2 (fun h => ?_) (fun h => ?_)⟩⟩
          · have J9 := J8.ex nst X9 D9
            exact ⟨.ref st, rfl, .ref ed, rfl, st, ed, _, w, v1, v2, d1, d2, rfl, J9.dt, by omega, hE.lasts (Lasts.of1 D8 X9), w1, w2, fun H10 ed' u1 u2 e1 e2 hE10 D10 X10 n1 n2 => ⟨ed', u1, u2, e1, e2, rfl, hE10, n1, n2, J9.ex nst X10 (D10.mono (by omega))⟩⟩
          · exact ⟨ed, v1, v2, d1, d2, rfl, hE.lasts (Lasts.of1 D8 X9), w1, w2, J8.ex nst X9 (D9.mono (by omega))⟩
        clear hE w1 w2 J8 D8 X8 J7 J
        rintro σ' H10 ⟨ed, v1, v2, d1, d2, rfl, hE, w1, w2, J⟩
        have wE := wr_ed (w := w) w1 w2
        refine ⟨.ref ed, rfl, .ref ed, dEd w d1 d2, st, st, rfl, hE.dq, wE.1, wE.2.1, wE.2.2, ?_⟩
        have hw7 := hE.w7
        have hi10 : Dp K H10 (.ref i) (dInst (lastI ins).1 (lastI ins).2) := J.di
        refine ⟨.ref i, rfl, .ref ed, rfl, st, st, i, ed, w, v1, v2, (lastI ins).1, (lastI ins).2, d1, d2, rfl, hw7, hi10, hio.ok, hE, w1, w2, fun cp hcp H11 p s11 hp => ⟨_, _, rfl, ?_⟩, fun hn H11 p i' s11 hp hi' => ⟨_, _, rfl, ?_⟩⟩
        · have hE11 := hE.lasts (Lasts.of s11)
          have J11 := J.same s11 (Nat.le_refl _)
          refine ⟨.ref p, rfl, p, _, 0, .str (nmE cp.1), rfl, rfl, hp, atI_nat (j := 0) rfl, rfl, _, rfl, ite_f (str_f (nm_ne _)) ?_⟩
          refine ⟨.ref ob, rfl, .ref ed, rfl, st, st, ob, ed, w, v1, v2, d1, d2, ins, eds, rfl, J11.bn, J11.ok, hE11, by omega, fun cp2 hcp2 H12 p2 s12 hp2 => ?_, fun hn => by (rw [show edFail (lastI ins) w d1 d2 = some cp from hcp] at hn; cases hn)⟩
          have ecp : cp2 = cp := Option.some.inj (hcp2.symm.trans hcp)
          subst ecp
          have hE12 := hE11.lasts (Lasts.of s12)
          have J12 := J11.same s12 (Nat.le_refl _)
          refine ⟨.ref p, rfl, st, st, .ref p2, .ref p, errD cp2 d1 d2, rfl, dq_err hp2 hE12.h1 hE12.h2 (ef_two hw7 hcp), dq_err ((TupK.of s12).sq hp) hE12.h1 hE12.h2 (ef_two hw7 hcp), wr_err w1 w2, _, rfl, iteF ?_⟩
          refine ⟨.ref ed, rfl, .ref ed, dEd w d1 d2, st, st, rfl, hE12.dq, wE.1, wE.2.1, wE.2.2, .str (dEd w d1 d2).shown, rfl, rfl, _, rfl, ite_f (ne_f _) ?_⟩
          refine ⟨.ref ob, rfl, ob, ins, eds, false, rfl, J12.bn, J12.ok, fun H13 pS iS MS s13 hpS hiS hMS => ?_⟩
          have J13 := J12.same s13 (Nat.le_refl _)
          refine ⟨.ref i, rfl, .ref M, rfl, i, M, lastI ins, eds, rfl, J13.di, hio.ok, J13.dm, J13.ok.l60, fun H14 pD s14 hpD => ?_⟩
          have J14 := J13.same s14 (Nat.le_refl _)
          have to := J14.ok.to
          refine ⟨st, st, .ref pS, .ref pD, seenD (lastI ins) eds, rfl, Dq.of_dp (to_seen to) ((TupK.of s14).dp _ _ (to_seen to) (dp_seen hpS hiS hMS)), Dq.of_dp (to_seen to) (dp_seen hpD J14.di J14.dm), Wr.fine (fine_seen hio.ok J14.ef J14.ok.l60) (by decide) (by decide), _, rfl, iteF ?_⟩
          exact ⟨_, _, _, _, i, M, ins, eds, t + 41, rfl, J14, by omega, by omega⟩
        · have hE11 := hE.lasts (Lasts.of s11)
          have J11 := J.same s11 (Nat.le_refl _)
          obtain ⟨ta1, ta2⟩ := ed_args hw7 hn
          have td := to_dEd ta1 ta2
          have fe := ed_fine hw7 hio.ok hn
          refine ⟨.ref p, rfl, p, _, 0, .str "state", rfl, rfl, hp, atI_nat (j := 0) rfl, rfl, _, rfl, iteT ?_⟩
          obtain ⟨mv, hmv, hme⟩ : ∃ mv, SqT K H11 M mv ∧ DpAll K H11 mv eds := by
            have := J11.dm
            cases this with
            | tup h1 h2 => exact ⟨_, h1, h2⟩
          have lm := DpAll.len hme
          refine ⟨.ref p, rfl, p, _, 1, .ref i', rfl, rfl, hp, atI_nat (j := 1) rfl, .ref M, rfl, .ref ed, rfl, (show (1 : Nat) ≤ sizeLine by decide), fun T1 n1 => ?_⟩
          have sT1 := sameNew (o := .tup [.ref ed]) n1
          refine cat_eq ((TupK.of sT1).sq hmv) (SqT.of upd_same) (Nat.le_of_lt (small (by rw [List.length_singleton]; omega))) fun H12 M2 s12 hM2 => ⟨_, _, rfl, ?_⟩
          have s112 := sT1.trans s12
          have tk12 := TupK.of s112
          have hed := ed_dp hE11 ta1 ta2
          have dm2 : Dp K H12 (.ref M2) (.tuple (eds ++ [dEd w d1 d2])) := .tup hM2 (dpAll_app (tk12.dpAll _ _ J11.ok.to hme) (.cons (tk12.dp _ _ td hed) .nil))
          refine ⟨.ref M2, rfl, M2, _, rfl, .inr hM2, (show (2 : Nat) ≤ sizeLine by decide), fun P2 nP2 => ?_⟩
          have sP2 := sameNew (o := .tup [V.str "told", V.int ((mv ++ [V.ref ed]).length : Nat)]) nP2
          have s11P := s112.trans sP2
          have hP2 : SqT K (upd H12 P2 (.tup [V.str "told", V.int ((mv ++ [V.ref ed]).length : Nat)])) P2 [V.str "told", V.int ((eds.length + 1 : Nat))] := by
            rw [show ((mv ++ [V.ref ed]).length : Nat) = eds.length + 1 by rw [List.length_append, List.length_singleton, lm]]
            exact SqT.of upd_same
          generalize upd H12 P2 (.tup [V.str "told", V.int ((mv ++ [V.ref ed]).length : Nat)]) = H13 at sP2 s11P hP2 ⊢
          have J13 := J11.same s11P (Nat.le_refl _)
          have hE13 := hE11.lasts (Lasts.of s11P)
          refine ⟨.ref ob, rfl, .ref ed, rfl, st, st, ob, ed, w, v1, v2, d1, d2, ins, eds, rfl, J13.bn, J13.ok, hE13, by omega, fun cp2 hcp2 => by (rw [show edFail (lastI ins) w d1 d2 = none from hn] at hcp2; cases hcp2), fun _ H14 p14 hB14 hK14 x14 hp14 => ?_⟩
          obtain ⟨dx13, S13, M13, sv13, mv13, hO13, _⟩ := J13.bn.ob
          have tk14 := tk_ex hO13 x14
          have nso : ob ≠ st := fun z => by obtain ⟨r, m, u, e, _⟩ := J13.dt; rw [z, e] at hO13; cases hO13
          have D14 : DT H14 st (t + 41) := by
            obtain ⟨r, m, u, e, h⟩ := J13.dt
            exact ⟨r, m, u, x14 _ _ e nso.symm, h⟩
          have hF14 : EdsF (eds ++ [dEd w d1 d2]) := fun d h => by
            rcases List.mem_append.mp h with z | z
            · exact J13.ef d z
            · rw [List.mem_singleton.mp z]; exact fe
          have hl : lastI (ins ++ [edRes (lastI ins) w d1 d2]) = edRes (lastI ins) w d1 d2 := by
            show (ins ++ [edRes (lastI ins) w d1 d2]).getD ((ins ++ [edRes (lastI ins) w d1 d2]).length - 1) ([], []) = _
            rw [List.length_append, List.length_singleton, Nat.add_sub_cancel, List.getD_eq_getElem?_getD, List.getElem?_append_right (Nat.le_refl _), Nat.sub_self]; rfl
          have J14 : LawJ K cB H0 st ob i' M2 (t + 41) H14 (ins ++ [edRes (lastI ins) w d1 d2]) (eds ++ [dEd w d1 d2]) := by
            refine ⟨fun b o e => x14 _ _ (J13.sm _ _ e) (ne_of_none e nob0), D14, hB14, hK14, hF14, ?_, ?_⟩
            · rw [hl]
              exact tk14.dp _ _ (to_dInst _ _) ((TupK.of s11P).dp _ _ (to_dInst _ _) hi')
            · exact tk14.dp _ _ (show tupOnly (.tuple (eds ++ [dEd w d1 d2])) = true from hK14.to) ((TupK.of sP2).dp _ _ (show tupOnly (.tuple (eds ++ [dEd w d1 d2])) = true from hK14.to) dm2)
          have l14 : (eds ++ [dEd w d1 d2]).length = eds.length + 1 := by rw [List.length_append, List.length_singleton]
          have hio14 := hK14.io _ (last_in (ins := ins ++ [edRes (lastI ins) w d1 d2]) (by simp))
          have hd14 : Dp K H14 (.ref ed) (dEd w d1 d2) := tk14.dp _ _ td (ed_dp hE13 ta1 ta2)
          have hP14 := tk14.sq hP2
          generalize eds ++ [dEd w d1 d2] = eds5 at *
          generalize ins ++ [edRes (lastI ins) w d1 d2] = ins5 at *
          have wT : Wr (.tuple [.str "told", .int ((eds.length + 1 : Nat))]) := wr_tup2 ⟨by unfold Pv.fit; decide +kernel, by simp [PyData.depth], by unfold Pv.wt; decide⟩ (Fit.int (by omega) (by decide))
          refine ⟨.ref P2, rfl, st, st, .ref p14, .ref P2, .tuple [.str "told", .int ((eds.length + 1 : Nat))], rfl, .tup hp14 (.cons (.str _) (.cons (.int _) .nil)), .tup hP14 (.cons (.str _) (.cons (.int _) .nil)), wT, _, rfl, iteF ?_⟩
          refine ⟨.ref ed, rfl, .ref ed, dEd w d1 d2, st, st, rfl, Dq.of_dp td hd14, wE.1, wE.2.1, wE.2.2, .str (dEd w d1 d2).shown, rfl, rfl, _, rfl, ite_f (ne_f _) ?_⟩
          refine ⟨.ref ob, rfl, ob, ins5, eds5, false, rfl, J14.bn, J14.ok, fun H15 pS iS MS s15 hpS hiS hMS => ?_⟩
          have J15 := J14.same s15 (Nat.le_refl _)
          refine ⟨.ref i', rfl, .ref M2, rfl, i', M2, lastI ins5, eds5, rfl, J15.di, hio14.ok, J15.dm, J15.ok.l60, fun H16 pD s16 hpD => ?_⟩
          have J16 := J15.same s16 (Nat.le_refl _)
          have to := J16.ok.to
          refine ⟨st, st, .ref pS, .ref pD, seenD (lastI ins5) eds5, rfl, Dq.of_dp (to_seen to) ((TupK.of s16).dp _ _ (to_seen to) (dp_seen hpS hiS hMS)), Dq.of_dp (to_seen to) (dp_seen hpD J16.di J16.dm), Wr.fine (fine_seen hio14.ok J16.ef J16.ok.l60) (by decide) (by decide), _, rfl, iteF ?_⟩
          exact ⟨_, _, _, _, i', M2, ins5, eds5, t + 41, rfl, J16, by omega, by omega⟩
      rintro σ H7 ⟨y6, y7, y8, y9, i2, M2, ins, eds, t, rfl, J, ht, _⟩
      have hk2 : (1 + c).toNat ≤ 15 := by omega
      have l1 := J.ok.l1
      have hio := J.ok.io _ (last_in (ins := ins) (by omega))
      refine ⟨.ref st, rfl, .ref i2, rfl, st, i2, t, lastI ins, rfl, J.dt, by omega, J.di, hio, fun H8 D8 X8 => ⟨_, rfl, iteF ?_⟩⟩
      exact ⟨_, _, _, _, _, _, _, _, _, rfl, s0.trans fun b o e => X8 _ _ (J.sm _ _ e) (ne_of_none e nst)⟩
    rintro σ H3 ⟨y1, y2, y3, y4, y5, y6, y7, y8, y9, rfl, s3⟩
    exact q H3
end
end Pv
namespace Pv
open PySem PySem.Spec PyProof.Rows L2
abbrev siBI : Stmt := inCls (topS 16) 0
theorem sciBI : FnScope ["self", "path", "reason"] ["self", "path", "reason"] (defScope siBI) := ⟨rfl, rfl, rfl, by decide +kernel, rfl, by decide +kernel, by decide +kernel⟩
theorem ok_iBI {P : Program} {w : World} {K : PySem.W.Frag} {mg : Str → Option Value} {base : Heap} {f C : Addr} {fd : FuncData} (F : Fun K "__init__" "BadInstance.__init__" siBI f fd) (X : XF2 K C f "path" "reason") : FnOk P w K mg base CX0 1 f fd ["self", "path", "reason"] (spI2 C "path" "reason") := by
  refine F.ok sciBI (fun vs H Q E h => ?_) (fun cdv A outer s H vs Q E hr h => ?_)
  · obtain ⟨a, v, w', rfl, _⟩ := h; rfl
  · obtain ⟨a, v, w', rfl, hH, q⟩ := h
    refine ⟨_, pss_cons (ps_ost (pv 0) (pv 1)) (pss_one (ps_ost (pv 0) (pv 2))), ?_⟩
    refine ⟨v, rfl, .ref a, rfl, a, C, rfl, X.T, X.no1, .inl ⟨hH, fun dx nd ne => ?_⟩⟩
    refine ⟨w', rfl, .ref a, rfl, a, C, rfl, X.T, X.no2, .inr ⟨dx, [("path", v)], upd_same, by rw [upd_ne ne]; exact upd_same, by simp, ?_⟩⟩
    have := q dx nd ne
    have e : upd (upd (upd H dx (exd dx [("path", v)])) a (exo a C (some dx))) dx (exd dx [("reason", w'), ("path", v)]) = upd (upd H dx (exd dx [("reason", w'), ("path", v)])) a (exo a C (some dx)) := by
      funext b
      by_cases h1 : b = dx
      · rw [h1, upd_same, upd_ne ne, upd_same]
      · rw [upd_ne h1]
        by_cases h2 : b = a
        · rw [h2, upd_same, upd_same]
        · rw [upd_ne h2, upd_ne h2, upd_ne h1, upd_ne h1]
    rw [← e] at this
    exact this
end Pv
namespace Pv
open PySem PySem.Spec PyProof.Rows L2
/-! what the top has left -/
set_option maxHeartbeats 8000000 in
theorem all_mk {l : PySem.W.OpenLaw} {w : World} {K : PySem.W.Frag} {h : Heap} {mg : Str → Option Value} {fa fWh fWi fTo fIE fPE fGE fPL fIP fIG fWI fWC fWN fWL fAG fRG fAP fRP fPW fEe fSu fSt fTa fFr fOO fEq fOd fLi fSz fIn fLP fIL fD0 fD1 fD2 fDu fDo fKi fAs fSE fSp fTx fSe fDS fMd fGF fLF fBw fMR fLaw : Addr} (X : K.In h) (G : h.Ns mainGlobals mg) (hfa : mg "law" = some (.ref fa))
    {odWh anWh odWi anWi odTo anTo odIE anIE odPE anPE odGE anGE odPL anPL odIP anIP odIG anIG odWI anWI odWC anWC odWN anWN odWL anWL odAG anAG odRG anRG odAP anAP odRP anRP odPW anPW odEe anEe odSu anSu odSt anSt odTa anTa odFr anFr odOO anOO odEq anEq odOd anOd odLi anLi odSz anSz odIn anIn odLP anLP odIL anIL odD0 anD0 odD1 anD1 odD2 anD2 odDu anDu odDo anDo odKi anKi odAs anAs odSE anSE odSp anSp odTx anTx odSe anSe odDS anDS odMd anMd odGF anGF odLF anLF odBw anBw odMR anMR odLaw anLaw : Option Addr} {slWh slWi slTo slIE slPE slGE slPL slIP slIG slWI slWC slWN slWL slAG slRG slAP slRP slPW slEe slSu slSt slTa slFr slOO slEq slOd slLi slSz slIn slLP slIL slD0 slD1 slD2 slDu slDo slKi slAs slSE slSp slTx slSe slDS slMd slGF slLF slBw slMR slLaw : Array (Option Value)}
    {ocWh kVWh dcWh pmWh cdWh ctWh ocWi kVWi dcWi pmWi cdWi ctWi ocTo kVTo dcTo pmTo cdTo ctTo ocIE kVIE dcIE pmIE cdIE ctIE ocPE kVPE dcPE pmPE cdPE ctPE ocGE kVGE dcGE pmGE cdGE ctGE ocPL kVPL dcPL pmPL cdPL ctPL ocIP kVIP dcIP pmIP cdIP ctIP ocIG kVIG dcIG pmIG cdIG ctIG ocWI kVWI dcWI pmWI cdWI ctWI ocWC kVWC dcWC pmWC cdWC ctWC ocWN kVWN dcWN pmWN cdWN ctWN ocWL kVWL dcWL pmWL cdWL ctWL ocAG kVAG dcAG pmAG cdAG ctAG ocRG kVRG dcRG pmRG cdRG ctRG ocAP kVAP dcAP pmAP cdAP ctAP ocRP kVRP dcRP pmRP cdRP ctRP ocPW kVPW dcPW pmPW cdPW ctPW ocEe kVEe dcEe pmEe cdEe ctEe ocSu kVSu dcSu pmSu cdSu ctSu ocSt kVSt dcSt pmSt cdSt ctSt ocTa kVTa dcTa pmTa cdTa ctTa ocFr kVFr dcFr pmFr cdFr ctFr ocOO kVOO dcOO pmOO cdOO ctOO ocEq kVEq dcEq pmEq cdEq ctEq ocOd kVOd dcOd pmOd cdOd ctOd ocLi kVLi dcLi pmLi cdLi ctLi ocSz kVSz dcSz pmSz cdSz ctSz ocIn kVIn dcIn pmIn cdIn ctIn ocLP kVLP dcLP pmLP cdLP ctLP ocIL kVIL dcIL pmIL cdIL ctIL ocD0 kVD0 dcD0 pmD0 cdD0 ctD0 ocD1 kVD1 dcD1 pmD1 cdD1 ctD1 ocD2 kVD2 dcD2 pmD2 cdD2 ctD2 ocDu kVDu dcDu pmDu cdDu ctDu ocDo kVDo dcDo pmDo cdDo ctDo ocKi kVKi dcKi pmKi cdKi ctKi ocAs kVAs dcAs pmAs cdAs ctAs ocSE kVSE dcSE pmSE cdSE ctSE ocSp kVSp dcSp pmSp cdSp ctSp ocTx kVTx dcTx pmTx cdTx ctTx ocSe kVSe dcSe pmSe cdSe ctSe ocDS kVDS dcDS pmDS cdDS ctDS ocMd kVMd dcMd pmMd cdMd ctMd ocGF kVGF dcGF pmGF cdGF ctGF ocLF kVLF dcLF pmLF cdLF ctLF ocBw kVBw dcBw pmBw cdBw ctBw ocMR kVMR dcMR pmMR cdMR ctMR ocLaw kVLaw dcLaw pmLaw cdLaw ctLaw : Value}
    (aWh : PySem.W.nsIn K mainGlobals "is_whole" = some (some (.ref fWh))) (lWh : K.lookup fWh = some ⟨ocWh, odWh, .func (PySem.W.fnOf "is_whole" "is_whole" (defArgs sWhole) (defBody sWhole) (defScope sWhole) .none kVWh dcWh pmWh anWh cdWh ctWh), slWh⟩)
      (cWh : PySem.W.codeIn K cdWh "is_whole" = true) (kWh : PySem.W.keepIn K (.ref fWh) = true)
    (aWi : PySem.W.nsIn K mainGlobals "is_within" = some (some (.ref fWi))) (lWi : K.lookup fWi = some ⟨ocWi, odWi, .func (PySem.W.fnOf "is_within" "is_within" (defArgs sWithin) (defBody sWithin) (defScope sWithin) .none kVWi dcWi pmWi anWi cdWi ctWi), slWi⟩)
      (cWi : PySem.W.codeIn K cdWi "is_within" = true) (kWi : PySem.W.keepIn K (.ref fWi) = true)
    (aTo : PySem.W.nsIn K mainGlobals "is_tuple_of" = some (some (.ref fTo))) (lTo : K.lookup fTo = some ⟨ocTo, odTo, .func (PySem.W.fnOf "is_tuple_of" "is_tuple_of" (defArgs sTupOf) (defBody sTupOf) (defScope sTupOf) .none kVTo dcTo pmTo anTo cdTo ctTo), slTo⟩)
      (cTo : PySem.W.codeIn K cdTo "is_tuple_of" = true) (kTo : PySem.W.keepIn K (.ref fTo) = true)
    (aIE : PySem.W.nsIn K mainGlobals "instance_error" = some (some (.ref fIE))) (lIE : K.lookup fIE = some ⟨ocIE, odIE, .func (PySem.W.fnOf "instance_error" "instance_error" (defArgs sIErr) (defBody sIErr) (defScope sIErr) .none kVIE dcIE pmIE anIE cdIE ctIE), slIE⟩)
      (cIE : PySem.W.codeIn K cdIE "instance_error" = true) (kIE : PySem.W.keepIn K (.ref fIE) = true)
    (aPE : PySem.W.nsIn K mainGlobals "posts_error" = some (some (.ref fPE))) (lPE : K.lookup fPE = some ⟨ocPE, odPE, .func (PySem.W.fnOf "posts_error" "posts_error" (defArgs sPErr) (defBody sPErr) (defScope sPErr) .none kVPE dcPE pmPE anPE cdPE ctPE), slPE⟩)
      (cPE : PySem.W.codeIn K cdPE "posts_error" = true) (kPE : PySem.W.keepIn K (.ref fPE) = true)
    (aGE : PySem.W.nsIn K mainGlobals "groups_error" = some (some (.ref fGE))) (lGE : K.lookup fGE = some ⟨ocGE, odGE, .func (PySem.W.fnOf "groups_error" "groups_error" (defArgs sGErr) (defBody sGErr) (defScope sGErr) .none kVGE dcGE pmGE anGE cdGE ctGE), slGE⟩)
      (cGE : PySem.W.codeIn K cdGE "groups_error" = true) (kGE : PySem.W.keepIn K (.ref fGE) = true)
    (aPL : PySem.W.nsIn K mainGlobals "is_post_list" = some (some (.ref fPL))) (lPL : K.lookup fPL = some ⟨ocPL, odPL, .func (PySem.W.fnOf "is_post_list" "is_post_list" (defArgs sPList) (defBody sPList) (defScope sPList) .none kVPL dcPL pmPL anPL cdPL ctPL), slPL⟩)
      (cPL : PySem.W.codeIn K cdPL "is_post_list" = true) (kPL : PySem.W.keepIn K (.ref fPL) = true)
    (aIP : PySem.W.nsIn K mainGlobals "is_post" = some (some (.ref fIP))) (lIP : K.lookup fIP = some ⟨ocIP, odIP, .func (PySem.W.fnOf "is_post" "is_post" (defArgs sIP) (defBody sIP) (defScope sIP) .none kVIP dcIP pmIP anIP cdIP ctIP), slIP⟩)
      (cIP : PySem.W.codeIn K cdIP "is_post" = true) (kIP : PySem.W.keepIn K (.ref fIP) = true)
    (aIG : PySem.W.nsIn K mainGlobals "is_group" = some (some (.ref fIG))) (lIG : K.lookup fIG = some ⟨ocIG, odIG, .func (PySem.W.fnOf "is_group" "is_group" (defArgs sIG) (defBody sIG) (defScope sIG) .none kVIG dcIG pmIG anIG cdIG ctIG), slIG⟩)
      (cIG : PySem.W.codeIn K cdIG "is_group" = true) (kIG : PySem.W.keepIn K (.ref fIG) = true)
    (aWI : PySem.W.nsIn K mainGlobals "with_item" = some (some (.ref fWI))) (lWI : K.lookup fWI = some ⟨ocWI, odWI, .func (PySem.W.fnOf "with_item" "with_item" (defArgs sWI) (defBody sWI) (defScope sWI) .none kVWI dcWI pmWI anWI cdWI ctWI), slWI⟩)
      (cWI : PySem.W.codeIn K cdWI "with_item" = true) (kWI : PySem.W.keepIn K (.ref fWI) = true)
    (aWC : PySem.W.nsIn K mainGlobals "with_capacity" = some (some (.ref fWC))) (lWC : K.lookup fWC = some ⟨ocWC, odWC, .func (PySem.W.fnOf "with_capacity" "with_capacity" (defArgs sWC) (defBody sWC) (defScope sWC) .none kVWC dcWC pmWC anWC cdWC ctWC), slWC⟩)
      (cWC : PySem.W.codeIn K cdWC "with_capacity" = true) (kWC : PySem.W.keepIn K (.ref fWC) = true)
    (aWN : PySem.W.nsIn K mainGlobals "with_count" = some (some (.ref fWN))) (lWN : K.lookup fWN = some ⟨ocWN, odWN, .func (PySem.W.fnOf "with_count" "with_count" (defArgs sWN) (defBody sWN) (defScope sWN) .none kVWN dcWN pmWN anWN cdWN ctWN), slWN⟩)
      (cWN : PySem.W.codeIn K cdWN "with_count" = true) (kWN : PySem.W.keepIn K (.ref fWN) = true)
    (aWL : PySem.W.nsIn K mainGlobals "with_list" = some (some (.ref fWL))) (lWL : K.lookup fWL = some ⟨ocWL, odWL, .func (PySem.W.fnOf "with_list" "with_list" (defArgs sWL) (defBody sWL) (defScope sWL) .none kVWL dcWL pmWL anWL cdWL ctWL), slWL⟩)
      (cWL : PySem.W.codeIn K cdWL "with_list" = true) (kWL : PySem.W.keepIn K (.ref fWL) = true)
    (aAG : PySem.W.nsIn K mainGlobals "with_group" = some (some (.ref fAG))) (lAG : K.lookup fAG = some ⟨ocAG, odAG, .func (PySem.W.fnOf "with_group" "with_group" (defArgs sAG) (defBody sAG) (defScope sAG) .none kVAG dcAG pmAG anAG cdAG ctAG), slAG⟩)
      (cAG : PySem.W.codeIn K cdAG "with_group" = true) (kAG : PySem.W.keepIn K (.ref fAG) = true)
    (aRG : PySem.W.nsIn K mainGlobals "without_group" = some (some (.ref fRG))) (lRG : K.lookup fRG = some ⟨ocRG, odRG, .func (PySem.W.fnOf "without_group" "without_group" (defArgs sRG) (defBody sRG) (defScope sRG) .none kVRG dcRG pmRG anRG cdRG ctRG), slRG⟩)
      (cRG : PySem.W.codeIn K cdRG "without_group" = true) (kRG : PySem.W.keepIn K (.ref fRG) = true)
    (aAP : PySem.W.nsIn K mainGlobals "with_post" = some (some (.ref fAP))) (lAP : K.lookup fAP = some ⟨ocAP, odAP, .func (PySem.W.fnOf "with_post" "with_post" (defArgs sAP) (defBody sAP) (defScope sAP) .none kVAP dcAP pmAP anAP cdAP ctAP), slAP⟩)
      (cAP : PySem.W.codeIn K cdAP "with_post" = true) (kAP : PySem.W.keepIn K (.ref fAP) = true)
    (aRP : PySem.W.nsIn K mainGlobals "without_post" = some (some (.ref fRP))) (lRP : K.lookup fRP = some ⟨ocRP, odRP, .func (PySem.W.fnOf "without_post" "without_post" (defArgs sRP) (defBody sRP) (defScope sRP) .none kVRP dcRP pmRP anRP cdRP ctRP), slRP⟩)
      (cRP : PySem.W.codeIn K cdRP "without_post" = true) (kRP : PySem.W.keepIn K (.ref fRP) = true)
    (aPW : PySem.W.nsIn K mainGlobals "posts_without" = some (some (.ref fPW))) (lPW : K.lookup fPW = some ⟨ocPW, odPW, .func (PySem.W.fnOf "posts_without" "posts_without" (defArgs sPW) (defBody sPW) (defScope sPW) .none kVPW dcPW pmPW anPW cdPW ctPW), slPW⟩)
      (cPW : PySem.W.codeIn K cdPW "posts_without" = true) (kPW : PySem.W.keepIn K (.ref fPW) = true)
    (aEe : PySem.W.nsIn K mainGlobals "edited" = some (some (.ref fEe))) (lEe : K.lookup fEe = some ⟨ocEe, odEe, .func (PySem.W.fnOf "edited" "edited" (defArgs sEe) (defBody sEe) (defScope sEe) .none kVEe dcEe pmEe anEe cdEe ctEe), slEe⟩)
      (cEe : PySem.W.codeIn K cdEe "edited" = true) (kEe : PySem.W.keepIn K (.ref fEe) = true)
    (aSu : PySem.W.nsIn K mainGlobals "summary" = some (some (.ref fSu))) (lSu : K.lookup fSu = some ⟨ocSu, odSu, .func (PySem.W.fnOf "summary" "summary" (defArgs sSu) (defBody sSu) (defScope sSu) .none kVSu dcSu pmSu anSu cdSu ctSu), slSu⟩)
      (cSu : PySem.W.codeIn K cdSu "summary" = true) (kSu : PySem.W.keepIn K (.ref fSu) = true)
    (aSt : PySem.W.nsIn K mainGlobals "_law_stream" = some (some (.ref fSt))) (lSt : K.lookup fSt = some ⟨ocSt, odSt, .func (PySem.W.fnOf "_law_stream" "_law_stream" (defArgs sSt) (defBody sSt) (defScope sSt) .none kVSt dcSt pmSt anSt cdSt ctSt), slSt⟩)
      (cSt : PySem.W.codeIn K cdSt "_law_stream" = true) (kSt : PySem.W.keepIn K (.ref fSt) = true)
    (aTa : PySem.W.nsIn K mainGlobals "_law_take" = some (some (.ref fTa))) (lTa : K.lookup fTa = some ⟨ocTa, odTa, .func (PySem.W.fnOf "_law_take" "_law_take" (defArgs sTa) (defBody sTa) (defScope sTa) .none kVTa dcTa pmTa anTa cdTa ctTa), slTa⟩)
      (cTa : PySem.W.codeIn K cdTa "_law_take" = true) (kTa : PySem.W.keepIn K (.ref fTa) = true)
    (aFr : PySem.W.nsIn K mainGlobals "_law_from" = some (some (.ref fFr))) (lFr : K.lookup fFr = some ⟨ocFr, odFr, .func (PySem.W.fnOf "_law_from" "_law_from" (defArgs sFr) (defBody sFr) (defScope sFr) .none kVFr dcFr pmFr anFr cdFr ctFr), slFr⟩)
      (cFr : PySem.W.codeIn K cdFr "_law_from" = true) (kFr : PySem.W.keepIn K (.ref fFr) = true)
    (aOO : PySem.W.nsIn K mainGlobals "_law_one_of" = some (some (.ref fOO))) (lOO : K.lookup fOO = some ⟨ocOO, odOO, .func (PySem.W.fnOf "_law_one_of" "_law_one_of" (defArgs sOO) (defBody sOO) (defScope sOO) .none kVOO dcOO pmOO anOO cdOO ctOO), slOO⟩)
      (cOO : PySem.W.codeIn K cdOO "_law_one_of" = true) (kOO : PySem.W.keepIn K (.ref fOO) = true)
    (aEq : PySem.W.nsIn K mainGlobals "_law_equal" = some (some (.ref fEq))) (lEq : K.lookup fEq = some ⟨ocEq, odEq, .func (PySem.W.fnOf "_law_equal" "_law_equal" (defArgs sEq) (defBody sEq) (defScope sEq) .none kVEq dcEq pmEq anEq cdEq ctEq), slEq⟩)
      (cEq : PySem.W.codeIn K cdEq "_law_equal" = true) (kEq : PySem.W.keepIn K (.ref fEq) = true)
    (aOd : PySem.W.nsIn K mainGlobals "_law_odd" = some (some (.ref fOd))) (lOd : K.lookup fOd = some ⟨ocOd, odOd, .func (PySem.W.fnOf "_law_odd" "_law_odd" (defArgs sOd) (defBody sOd) (defScope sOd) .none kVOd dcOd pmOd anOd cdOd ctOd), slOd⟩)
      (cOd : PySem.W.codeIn K cdOd "_law_odd" = true) (kOd : PySem.W.keepIn K (.ref fOd) = true)
    (aLi : PySem.W.nsIn K mainGlobals "_law_list" = some (some (.ref fLi))) (lLi : K.lookup fLi = some ⟨ocLi, odLi, .func (PySem.W.fnOf "_law_list" "_law_list" (defArgs sLi) (defBody sLi) (defScope sLi) .none kVLi dcLi pmLi anLi cdLi ctLi), slLi⟩)
      (cLi : PySem.W.codeIn K cdLi "_law_list" = true) (kLi : PySem.W.keepIn K (.ref fLi) = true)
    (aSz : PySem.W.nsIn K mainGlobals "_law_size" = some (some (.ref fSz))) (lSz : K.lookup fSz = some ⟨ocSz, odSz, .func (PySem.W.fnOf "_law_size" "_law_size" (defArgs sSz) (defBody sSz) (defScope sSz) .none kVSz dcSz pmSz anSz cdSz ctSz), slSz⟩)
      (cSz : PySem.W.codeIn K cdSz "_law_size" = true) (kSz : PySem.W.keepIn K (.ref fSz) = true)
    (aIn : PySem.W.nsIn K mainGlobals "_law_instance" = some (some (.ref fIn))) (lIn : K.lookup fIn = some ⟨ocIn, odIn, .func (PySem.W.fnOf "_law_instance" "_law_instance" (defArgs sIn) (defBody sIn) (defScope sIn) .none kVIn dcIn pmIn anIn cdIn ctIn), slIn⟩)
      (cIn : PySem.W.codeIn K cdIn "_law_instance" = true) (kIn : PySem.W.keepIn K (.ref fIn) = true)
    (aLP : PySem.W.nsIn K mainGlobals "_law_put" = some (some (.ref fLP))) (lLP : K.lookup fLP = some ⟨ocLP, odLP, .func (PySem.W.fnOf "_law_put" "_law_put" (defArgs sLP) (defBody sLP) (defScope sLP) .none kVLP dcLP pmLP anLP cdLP ctLP), slLP⟩)
      (cLP : PySem.W.codeIn K cdLP "_law_put" = true) (kLP : PySem.W.keepIn K (.ref fLP) = true)
    (aIL : PySem.W.nsIn K mainGlobals "_law_is_list" = some (some (.ref fIL))) (lIL : K.lookup fIL = some ⟨ocIL, odIL, .func (PySem.W.fnOf "_law_is_list" "_law_is_list" (defArgs sIL) (defBody sIL) (defScope sIL) .none kVIL dcIL pmIL anIL cdIL ctIL), slIL⟩)
      (cIL : PySem.W.codeIn K cdIL "_law_is_list" = true) (kIL : PySem.W.keepIn K (.ref fIL) = true)
    (aD0 : PySem.W.nsIn K mainGlobals "_law_due_set" = some (some (.ref fD0))) (lD0 : K.lookup fD0 = some ⟨ocD0, odD0, .func (PySem.W.fnOf "_law_due_set" "_law_due_set" (defArgs sD0) (defBody sD0) (defScope sD0) .none kVD0 dcD0 pmD0 anD0 cdD0 ctD0), slD0⟩)
      (cD0 : PySem.W.codeIn K cdD0 "_law_due_set" = true) (kD0 : PySem.W.keepIn K (.ref fD0) = true)
    (aD1 : PySem.W.nsIn K mainGlobals "_law_due_add" = some (some (.ref fD1))) (lD1 : K.lookup fD1 = some ⟨ocD1, odD1, .func (PySem.W.fnOf "_law_due_add" "_law_due_add" (defArgs sD1) (defBody sD1) (defScope sD1) .none kVD1 dcD1 pmD1 anD1 cdD1 ctD1), slD1⟩)
      (cD1 : PySem.W.codeIn K cdD1 "_law_due_add" = true) (kD1 : PySem.W.keepIn K (.ref fD1) = true)
    (aD2 : PySem.W.nsIn K mainGlobals "_law_due_remove" = some (some (.ref fD2))) (lD2 : K.lookup fD2 = some ⟨ocD2, odD2, .func (PySem.W.fnOf "_law_due_remove" "_law_due_remove" (defArgs sD2) (defBody sD2) (defScope sD2) .none kVD2 dcD2 pmD2 anD2 cdD2 ctD2), slD2⟩)
      (cD2 : PySem.W.codeIn K cdD2 "_law_due_remove" = true) (kD2 : PySem.W.keepIn K (.ref fD2) = true)
    (aDu : PySem.W.nsIn K mainGlobals "_law_due" = some (some (.ref fDu))) (lDu : K.lookup fDu = some ⟨ocDu, odDu, .func (PySem.W.fnOf "_law_due" "_law_due" (defArgs sDu) (defBody sDu) (defScope sDu) .none kVDu dcDu pmDu anDu cdDu ctDu), slDu⟩)
      (cDu : PySem.W.codeIn K cdDu "_law_due" = true) (kDu : PySem.W.keepIn K (.ref fDu) = true)
    (aDo : PySem.W.nsIn K mainGlobals "_law_do" = some (some (.ref fDo))) (lDo : K.lookup fDo = some ⟨ocDo, odDo, .func (PySem.W.fnOf "_law_do" "_law_do" (defArgs sDo) (defBody sDo) (defScope sDo) .none kVDo dcDo pmDo anDo cdDo ctDo), slDo⟩)
      (cDo : PySem.W.codeIn K cdDo "_law_do" = true) (kDo : PySem.W.keepIn K (.ref fDo) = true)
    (aKi : PySem.W.nsIn K mainGlobals "_law_kind" = some (some (.ref fKi))) (lKi : K.lookup fKi = some ⟨ocKi, odKi, .func (PySem.W.fnOf "_law_kind" "_law_kind" (defArgs sKi) (defBody sKi) (defScope sKi) .none kVKi dcKi pmKi anKi cdKi ctKi), slKi⟩)
      (cKi : PySem.W.codeIn K cdKi "_law_kind" = true) (kKi : PySem.W.keepIn K (.ref fKi) = true)
    (aAs : PySem.W.nsIn K mainGlobals "_law_asked" = some (some (.ref fAs))) (lAs : K.lookup fAs = some ⟨ocAs, odAs, .func (PySem.W.fnOf "_law_asked" "_law_asked" (defArgs sAs) (defBody sAs) (defScope sAs) .none kVAs dcAs pmAs anAs cdAs ctAs), slAs⟩)
      (cAs : PySem.W.codeIn K cdAs "_law_asked" = true) (kAs : PySem.W.keepIn K (.ref fAs) = true)
    (aSE : PySem.W.nsIn K mainGlobals "_law_some_edit" = some (some (.ref fSE))) (lSE : K.lookup fSE = some ⟨ocSE, odSE, .func (PySem.W.fnOf "_law_some_edit" "_law_some_edit" (defArgs sSE) (defBody sSE) (defScope sSE) .none kVSE dcSE pmSE anSE cdSE ctSE), slSE⟩)
      (cSE : PySem.W.codeIn K cdSE "_law_some_edit" = true) (kSE : PySem.W.keepIn K (.ref fSE) = true)
    (aSp : PySem.W.nsIn K mainGlobals "_law_spoilt" = some (some (.ref fSp))) (lSp : K.lookup fSp = some ⟨ocSp, odSp, .func (PySem.W.fnOf "_law_spoilt" "_law_spoilt" (defArgs sSp) (defBody sSp) (defScope sSp) .none kVSp dcSp pmSp anSp cdSp ctSp), slSp⟩)
      (cSp : PySem.W.codeIn K cdSp "_law_spoilt" = true) (kSp : PySem.W.keepIn K (.ref fSp) = true)
    (aTx : PySem.W.nsIn K mainGlobals "_law_text" = some (some (.ref fTx))) (lTx : K.lookup fTx = some ⟨ocTx, odTx, .func (PySem.W.fnOf "_law_text" "_law_text" (defArgs sTx) (defBody sTx) (defScope sTx) .none kVTx dcTx pmTx anTx cdTx ctTx), slTx⟩)
      (cTx : PySem.W.codeIn K cdTx "_law_text" = true) (kTx : PySem.W.keepIn K (.ref fTx) = true)
    (aSe : PySem.W.nsIn K mainGlobals "_law_seen" = some (some (.ref fSe))) (lSe : K.lookup fSe = some ⟨ocSe, odSe, .func (PySem.W.fnOf "_law_seen" "_law_seen" (defArgs sSe) (defBody sSe) (defScope sSe) .none kVSe dcSe pmSe anSe cdSe ctSe), slSe⟩)
      (cSe : PySem.W.codeIn K cdSe "_law_seen" = true) (kSe : PySem.W.keepIn K (.ref fSe) = true)
    (aDS : PySem.W.nsIn K mainGlobals "_law_due_seen" = some (some (.ref fDS))) (lDS : K.lookup fDS = some ⟨ocDS, odDS, .func (PySem.W.fnOf "_law_due_seen" "_law_due_seen" (defArgs sDS) (defBody sDS) (defScope sDS) .none kVDS dcDS pmDS anDS cdDS ctDS), slDS⟩)
      (cDS : PySem.W.codeIn K cdDS "_law_due_seen" = true) (kDS : PySem.W.keepIn K (.ref fDS) = true)
    (aMd : PySem.W.nsIn K mainGlobals "_law_made" = some (some (.ref fMd))) (lMd : K.lookup fMd = some ⟨ocMd, odMd, .func (PySem.W.fnOf "_law_made" "_law_made" (defArgs sMd) (defBody sMd) (defScope sMd) .none kVMd dcMd pmMd anMd cdMd ctMd), slMd⟩)
      (cMd : PySem.W.codeIn K cdMd "_law_made" = true) (kMd : PySem.W.keepIn K (.ref fMd) = true)
    (aGF : PySem.W.nsIn K mainGlobals "_law_group_fault" = some (some (.ref fGF))) (lGF : K.lookup fGF = some ⟨ocGF, odGF, .func (PySem.W.fnOf "_law_group_fault" "_law_group_fault" (defArgs sGF) (defBody sGF) (defScope sGF) .none kVGF dcGF pmGF anGF cdGF ctGF), slGF⟩)
      (cGF : PySem.W.codeIn K cdGF "_law_group_fault" = true) (kGF : PySem.W.keepIn K (.ref fGF) = true)
    (aLF : PySem.W.nsIn K mainGlobals "_law_fault" = some (some (.ref fLF))) (lLF : K.lookup fLF = some ⟨ocLF, odLF, .func (PySem.W.fnOf "_law_fault" "_law_fault" (defArgs sLF) (defBody sLF) (defScope sLF) .none kVLF dcLF pmLF anLF cdLF ctLF), slLF⟩)
      (cLF : PySem.W.codeIn K cdLF "_law_fault" = true) (kLF : PySem.W.keepIn K (.ref fLF) = true)
    (aBw : PySem.W.nsIn K mainGlobals "_law_bent" = some (some (.ref fBw))) (lBw : K.lookup fBw = some ⟨ocBw, odBw, .func (PySem.W.fnOf "_law_bent" "_law_bent" (defArgs sBw) (defBody sBw) (defScope sBw) .none kVBw dcBw pmBw anBw cdBw ctBw), slBw⟩)
      (cBw : PySem.W.codeIn K cdBw "_law_bent" = true) (kBw : PySem.W.keepIn K (.ref fBw) = true)
    (aMR : PySem.W.nsIn K mainGlobals "_law_made_right" = some (some (.ref fMR))) (lMR : K.lookup fMR = some ⟨ocMR, odMR, .func (PySem.W.fnOf "_law_made_right" "_law_made_right" (defArgs sMR) (defBody sMR) (defScope sMR) .none kVMR dcMR pmMR anMR cdMR ctMR), slMR⟩)
      (cMR : PySem.W.codeIn K cdMR "_law_made_right" = true) (kMR : PySem.W.keepIn K (.ref fMR) = true)
    (aLaw : PySem.W.nsIn K mainGlobals "law" = some (some (.ref fLaw))) (lLaw : K.lookup fLaw = some ⟨ocLaw, odLaw, .func (PySem.W.fnOf "law" "law" (defArgs sLaw) (defBody sLaw) (defScope sLaw) .none kVLaw dcLaw pmLaw anLaw cdLaw ctLaw), slLaw⟩)
      (cLaw : PySem.W.codeIn K cdLaw "law" = true) (kLaw : PySem.W.keepIn K (.ref fLaw) = true)
    (z0 : PySem.W.nsIn K mainGlobals "isinstance" = some none)
    (z1 : PySem.W.nsIn K mainGlobals "int" = some none)
    (z2 : PySem.W.nsIn K mainGlobals "bool" = some none)
    (z3 : PySem.W.nsIn K mainGlobals "tuple" = some none)
    (z4 : PySem.W.nsIn K mainGlobals "list" = some none)
    (z5 : PySem.W.nsIn K mainGlobals "len" = some none)
    (z6 : PySem.W.nsIn K mainGlobals "all" = some none)
    (z7 : PySem.W.nsIn K mainGlobals "set" = some none)
    (z8 : PySem.W.nsIn K mainGlobals "sum" = some none)
    (z9 : PySem.W.nsIn K mainGlobals "range" = some none)
    (z10 : PySem.W.nsIn K mainGlobals "enumerate" = some none)
    (z11 : PySem.W.nsIn K mainGlobals "str" = some none)
    (z12 : PySem.W.nsIn K mainGlobals "repr" = some none)
    (z13 : PySem.W.nsIn K mainGlobals "ValueError" = some none)
    (z14 : PySem.W.nsIn K mainGlobals "sorted" = some none)
    (z15 : PySem.W.nsIn K mainGlobals "LookupError" = some none)
    {uBIG : Value} (y0 : PySem.W.nsIn K mainGlobals "BIG" = some (some uBIG)) (rBIG : RelV (.int 1000000000000) uBIG)
    {uPOSTS : Value} (y1 : PySem.W.nsIn K mainGlobals "POSTS" = some (some uPOSTS)) (rPOSTS : RelV (.int 6) uPOSTS)
    {uGROUPS : Value} (y2 : PySem.W.nsIn K mainGlobals "GROUPS" = some (some uGROUPS)) (rGROUPS : RelV (.int 10) uGROUPS)
    {uEDITS : Value} (y3 : PySem.W.nsIn K mainGlobals "EDITS" = some (some uEDITS)) (rEDITS : RelV (.int 60) uEDITS)
    {cVE : Addr} (aCVE : PySem.W.nsIn K mainGlobals "VoteError" = some (some (.ref cVE))) (iCVE : isCB K cVE = true)
    {cBN : Addr} (aCBN : PySem.W.nsIn K mainGlobals "BadNumber" = some (some (.ref cBN))) (iCBN : isCB K cBN = true)
    {cBL : Addr} (aCBL : PySem.W.nsIn K mainGlobals "BadList" = some (some (.ref cBL))) (iCBL : isCB K cBL = true)
    {cTM : Addr} (aCTM : PySem.W.nsIn K mainGlobals "TooMany" = some (some (.ref cTM))) (iCTM : isCB K cTM = true)
    {cBI : Addr} (aCBI : PySem.W.nsIn K mainGlobals "BadInstance" = some (some (.ref cBI))) (iCBI : isCB K cBI = true)
    {cTE : Addr} (aCTE : PySem.W.nsIn K mainGlobals "TooManyEdits" = some (some (.ref cTE))) (iCTE : isCB K cTE = true)
    {cLO : Addr} (aCLO : PySem.W.nsIn K mainGlobals "LastOne" = some (some (.ref cLO))) (iCLO : isCB K cLO = true)
    {cBu : Addr} (aCBu : PySem.W.nsIn K mainGlobals "Busy" = some (some (.ref cBu))) (iCBu : isCB K cBu = true)
    {cNP : Addr} (aCNP : PySem.W.nsIn K mainGlobals "NoPost" = some (some (.ref cNP))) (iCNP : isCB K cNP = true)
    {cNG : Addr} (aCNG : PySem.W.nsIn K mainGlobals "NoGroup" = some (some (.ref cNG))) (iCNG : isCB K cNG = true)
    {cNV : Addr} (aCNV : PySem.W.nsIn K mainGlobals "NoVersion" = some (some (.ref cNV))) (iCNV : isCB K cNV = true)
    {nmBN qnBN : Str} {NBN fiBN : Addr} {bsBN bmBN subBN : List Value} {snBN : List Str} {abBN : Bool} {colBN : Option Bool} {ddBN odiBN aniBN : Option Addr} {kaBN kbBN kcBN kdBN keBN : Option Value} {sliBN : Array (Option Value)} {ociBN kViBN dciBN pmiBN cdiBN ctiBN : Value}
    (lXBN : K.lookup cBN = some (excClassObj nmBN qnBN cBN NBN bsBN bmBN true snBN subBN abBN colBN ddBN kaBN kbBN kcBN kdBN keBN "ValueError.__new__")) (vXBN : PySem.HandSPX.refsVE bmBN = true)
    (nXBN : PySem.W.findIn K (.ref cBN) "__init__" = some (some (.ref fiBN))) (lIBN : K.lookup fiBN = some ⟨ociBN, odiBN, .func (PySem.W.fnOf "__init__" "BadNumber.__init__" (defArgs siBN) (defBody siBN) (defScope siBN) .none kViBN dciBN pmiBN aniBN cdiBN ctiBN), sliBN⟩) (cIBN : PySem.W.codeIn K cdiBN "BadNumber.__init__" = true) (kIBN : PySem.W.keepIn K (.ref fiBN) = true) (bXBN : xf1B K cBN fiBN "value" = true)
    {nmBL qnBL : Str} {NBL fiBL : Addr} {bsBL bmBL subBL : List Value} {snBL : List Str} {abBL : Bool} {colBL : Option Bool} {ddBL odiBL aniBL : Option Addr} {kaBL kbBL kcBL kdBL keBL : Option Value} {sliBL : Array (Option Value)} {ociBL kViBL dciBL pmiBL cdiBL ctiBL : Value}
    (lXBL : K.lookup cBL = some (excClassObj nmBL qnBL cBL NBL bsBL bmBL true snBL subBL abBL colBL ddBL kaBL kbBL kcBL kdBL keBL "ValueError.__new__")) (vXBL : PySem.HandSPX.refsVE bmBL = true)
    (nXBL : PySem.W.findIn K (.ref cBL) "__init__" = some (some (.ref fiBL))) (lIBL : K.lookup fiBL = some ⟨ociBL, odiBL, .func (PySem.W.fnOf "__init__" "BadList.__init__" (defArgs siBL) (defBody siBL) (defScope siBL) .none kViBL dciBL pmiBL aniBL cdiBL ctiBL), sliBL⟩) (cIBL : PySem.W.codeIn K cdiBL "BadList.__init__" = true) (kIBL : PySem.W.keepIn K (.ref fiBL) = true) (bXBL : xf1B K cBL fiBL "value" = true)
    {nmTM qnTM : Str} {NTM fiTM : Addr} {bsTM bmTM subTM : List Value} {snTM : List Str} {abTM : Bool} {colTM : Option Bool} {ddTM odiTM aniTM : Option Addr} {kaTM kbTM kcTM kdTM keTM : Option Value} {sliTM : Array (Option Value)} {ociTM kViTM dciTM pmiTM cdiTM ctiTM : Value}
    (lXTM : K.lookup cTM = some (excClassObj nmTM qnTM cTM NTM bsTM bmTM true snTM subTM abTM colTM ddTM kaTM kbTM kcTM kdTM keTM "ValueError.__new__")) (vXTM : PySem.HandSPX.refsVE bmTM = true)
    (nXTM : PySem.W.findIn K (.ref cTM) "__init__" = some (some (.ref fiTM))) (lITM : K.lookup fiTM = some ⟨ociTM, odiTM, .func (PySem.W.fnOf "__init__" "TooMany.__init__" (defArgs siTM) (defBody siTM) (defScope siTM) .none kViTM dciTM pmiTM aniTM cdiTM ctiTM), sliTM⟩) (cITM : PySem.W.codeIn K cdiTM "TooMany.__init__" = true) (kITM : PySem.W.keepIn K (.ref fiTM) = true) (bXTM : xf1B K cTM fiTM "limit" = true)
    {nmBI qnBI : Str} {NBI fiBI : Addr} {bsBI bmBI subBI : List Value} {snBI : List Str} {abBI : Bool} {colBI : Option Bool} {ddBI odiBI aniBI : Option Addr} {kaBI kbBI kcBI kdBI keBI : Option Value} {sliBI : Array (Option Value)} {ociBI kViBI dciBI pmiBI cdiBI ctiBI : Value}
    (lXBI : K.lookup cBI = some (excClassObj nmBI qnBI cBI NBI bsBI bmBI true snBI subBI abBI colBI ddBI kaBI kbBI kcBI kdBI keBI "ValueError.__new__")) (vXBI : PySem.HandSPX.refsVE bmBI = true)
    (nXBI : PySem.W.findIn K (.ref cBI) "__init__" = some (some (.ref fiBI))) (lIBI : K.lookup fiBI = some ⟨ociBI, odiBI, .func (PySem.W.fnOf "__init__" "BadInstance.__init__" (defArgs siBI) (defBody siBI) (defScope siBI) .none kViBI dciBI pmiBI aniBI cdiBI ctiBI), sliBI⟩) (cIBI : PySem.W.codeIn K cdiBI "BadInstance.__init__" = true) (kIBI : PySem.W.keepIn K (.ref fiBI) = true) (bXBI : xf2B K cBI fiBI "path" "reason" = true)
    {nmNP qnNP : Str} {NNP fiNP : Addr} {bsNP subNP : List Value} {snNP : List Str} {abNP : Bool} {colNP : Option Bool} {ddNP odiNP aniNP : Option Addr} {kaNP kbNP kcNP kdNP keNP : Option Value} {sliNP : Array (Option Value)} {ociNP kViNP dciNP pmiNP cdiNP ctiNP : Value}
    (lXNP : K.lookup cNP = some (excClassObj nmNP qnNP cNP NNP bsNP LEbm true snNP subNP abNP colNP ddNP kaNP kbNP kcNP kdNP keNP "LookupError.__new__"))
    (nXNP : PySem.W.findIn K (.ref cNP) "__init__" = some (some (.ref fiNP))) (lINP : K.lookup fiNP = some ⟨ociNP, odiNP, .func (PySem.W.fnOf "__init__" "NoPost.__init__" (defArgs siNP) (defBody siNP) (defScope siNP) .none kViNP dciNP pmiNP aniNP cdiNP ctiNP), sliNP⟩) (cINP : PySem.W.codeIn K cdiNP "NoPost.__init__" = true) (kINP : PySem.W.keepIn K (.ref fiNP) = true) (bXNP : xf1B K cNP fiNP "value" = true)
    {nmNG qnNG : Str} {NNG fiNG : Addr} {bsNG subNG : List Value} {snNG : List Str} {abNG : Bool} {colNG : Option Bool} {ddNG odiNG aniNG : Option Addr} {kaNG kbNG kcNG kdNG keNG : Option Value} {sliNG : Array (Option Value)} {ociNG kViNG dciNG pmiNG cdiNG ctiNG : Value}
    (lXNG : K.lookup cNG = some (excClassObj nmNG qnNG cNG NNG bsNG LEbm true snNG subNG abNG colNG ddNG kaNG kbNG kcNG kdNG keNG "LookupError.__new__"))
    (nXNG : PySem.W.findIn K (.ref cNG) "__init__" = some (some (.ref fiNG))) (lING : K.lookup fiNG = some ⟨ociNG, odiNG, .func (PySem.W.fnOf "__init__" "NoGroup.__init__" (defArgs siNG) (defBody siNG) (defScope siNG) .none kViNG dciNG pmiNG aniNG cdiNG ctiNG), sliNG⟩) (cING : PySem.W.codeIn K cdiNG "NoGroup.__init__" = true) (kING : PySem.W.keepIn K (.ref fiNG) = true) (bXNG : xf1B K cNG fiNG "value" = true)
    {nmNV qnNV : Str} {NNV fiNV : Addr} {bsNV subNV : List Value} {snNV : List Str} {abNV : Bool} {colNV : Option Bool} {ddNV odiNV aniNV : Option Addr} {kaNV kbNV kcNV kdNV keNV : Option Value} {sliNV : Array (Option Value)} {ociNV kViNV dciNV pmiNV cdiNV ctiNV : Value}
    (lXNV : K.lookup cNV = some (excClassObj nmNV qnNV cNV NNV bsNV LEbm true snNV subNV abNV colNV ddNV kaNV kbNV kcNV kdNV keNV "LookupError.__new__"))
    (nXNV : PySem.W.findIn K (.ref cNV) "__init__" = some (some (.ref fiNV))) (lINV : K.lookup fiNV = some ⟨ociNV, odiNV, .func (PySem.W.fnOf "__init__" "NoVersion.__init__" (defArgs siNV) (defBody siNV) (defScope siNV) .none kViNV dciNV pmiNV aniNV cdiNV ctiNV), sliNV⟩) (cINV : PySem.W.codeIn K cdiNV "NoVersion.__init__" = true) (kINV : PySem.W.keepIn K (.ref fiNV) = true) (bXNV : xf1B K cNV fiNV "value" = true)
    (xTE : PySem.W.excIn K cTE VEbm "ValueError.__new__" = true)
    (xLO : PySem.W.excIn K cLO VEbm "ValueError.__new__" = true)
    (xBu : PySem.W.excIn K cBu VEbm "ValueError.__new__" = true)
    (ebTE : PySem.W.exmAny K (.ref cTE) [.ref cVE, .ref cNP, .ref cNG] = some true)
    (ebNP : PySem.W.exmAny K (.ref cNP) [.ref cVE, .ref cNP, .ref cNG] = some true)
    (ebNG : PySem.W.exmAny K (.ref cNG) [.ref cVE, .ref cNP, .ref cNG] = some true)
    (ebBN : PySem.W.exmAny K (.ref cBN) [.ref cVE, .ref cNP, .ref cNG] = some true)
    (ebBL : PySem.W.exmAny K (.ref cBL) [.ref cVE, .ref cNP, .ref cNG] = some true)
    (ebTM : PySem.W.exmAny K (.ref cTM) [.ref cVE, .ref cNP, .ref cNG] = some true)
    (ebLO : PySem.W.exmAny K (.ref cLO) [.ref cVE, .ref cNP, .ref cNG] = some true)
    (xmBI : PySem.W.exmOne K (.ref cBI) (.ref cBI) = some true)
    (lkNP : PySem.W.kitOne K (.ref cNP) (.type "LookupError") = some true)
    (veNP : PySem.W.kitOne K (.ref cNP) (.type "ValueError") = some false)
    (ccNPNP : PySem.W.kitOne K (.ref cNP) (.ref cNP) = some true)
    (ccNPNG : PySem.W.kitOne K (.ref cNP) (.ref cNG) = some false)
    (ccNPBN : PySem.W.kitOne K (.ref cNP) (.ref cBN) = some false)
    (ccNPBL : PySem.W.kitOne K (.ref cNP) (.ref cBL) = some false)
    (ccNPTM : PySem.W.kitOne K (.ref cNP) (.ref cTM) = some false)
    (ccNPLO : PySem.W.kitOne K (.ref cNP) (.ref cLO) = some false)
    (lkNG : PySem.W.kitOne K (.ref cNG) (.type "LookupError") = some true)
    (veNG : PySem.W.kitOne K (.ref cNG) (.type "ValueError") = some false)
    (ccNGNP : PySem.W.kitOne K (.ref cNG) (.ref cNP) = some false)
    (ccNGNG : PySem.W.kitOne K (.ref cNG) (.ref cNG) = some true)
    (ccNGBN : PySem.W.kitOne K (.ref cNG) (.ref cBN) = some false)
    (ccNGBL : PySem.W.kitOne K (.ref cNG) (.ref cBL) = some false)
    (ccNGTM : PySem.W.kitOne K (.ref cNG) (.ref cTM) = some false)
    (ccNGLO : PySem.W.kitOne K (.ref cNG) (.ref cLO) = some false)
    (lkBN : PySem.W.kitOne K (.ref cBN) (.type "LookupError") = some false)
    (veBN : PySem.W.kitOne K (.ref cBN) (.type "ValueError") = some true)
    (ccBNNP : PySem.W.kitOne K (.ref cBN) (.ref cNP) = some false)
    (ccBNNG : PySem.W.kitOne K (.ref cBN) (.ref cNG) = some false)
    (ccBNBN : PySem.W.kitOne K (.ref cBN) (.ref cBN) = some true)
    (ccBNBL : PySem.W.kitOne K (.ref cBN) (.ref cBL) = some false)
    (ccBNTM : PySem.W.kitOne K (.ref cBN) (.ref cTM) = some false)
    (ccBNLO : PySem.W.kitOne K (.ref cBN) (.ref cLO) = some false)
    (lkBL : PySem.W.kitOne K (.ref cBL) (.type "LookupError") = some false)
    (veBL : PySem.W.kitOne K (.ref cBL) (.type "ValueError") = some true)
    (ccBLNP : PySem.W.kitOne K (.ref cBL) (.ref cNP) = some false)
    (ccBLNG : PySem.W.kitOne K (.ref cBL) (.ref cNG) = some false)
    (ccBLBN : PySem.W.kitOne K (.ref cBL) (.ref cBN) = some false)
    (ccBLBL : PySem.W.kitOne K (.ref cBL) (.ref cBL) = some true)
    (ccBLTM : PySem.W.kitOne K (.ref cBL) (.ref cTM) = some false)
    (ccBLLO : PySem.W.kitOne K (.ref cBL) (.ref cLO) = some false)
    (lkTM : PySem.W.kitOne K (.ref cTM) (.type "LookupError") = some false)
    (veTM : PySem.W.kitOne K (.ref cTM) (.type "ValueError") = some true)
    (ccTMNP : PySem.W.kitOne K (.ref cTM) (.ref cNP) = some false)
    (ccTMNG : PySem.W.kitOne K (.ref cTM) (.ref cNG) = some false)
    (ccTMBN : PySem.W.kitOne K (.ref cTM) (.ref cBN) = some false)
    (ccTMBL : PySem.W.kitOne K (.ref cTM) (.ref cBL) = some false)
    (ccTMTM : PySem.W.kitOne K (.ref cTM) (.ref cTM) = some true)
    (ccTMLO : PySem.W.kitOne K (.ref cTM) (.ref cLO) = some false)
    (lkLO : PySem.W.kitOne K (.ref cLO) (.type "LookupError") = some false)
    (veLO : PySem.W.kitOne K (.ref cLO) (.type "ValueError") = some true)
    (ccLONP : PySem.W.kitOne K (.ref cLO) (.ref cNP) = some false)
    (ccLONG : PySem.W.kitOne K (.ref cLO) (.ref cNG) = some false)
    (ccLOBN : PySem.W.kitOne K (.ref cLO) (.ref cBN) = some false)
    (ccLOBL : PySem.W.kitOne K (.ref cLO) (.ref cBL) = some false)
    (ccLOTM : PySem.W.kitOne K (.ref cLO) (.ref cTM) = some false)
    (ccLOLO : PySem.W.kitOne K (.ref cLO) (.ref cLO) = some true)
    {cB fBI fM0 fM1 fM2 fM3 fM4 fM5 fM6 fCI fBE fBM fBS fBN fBD fBL fBT fBQ : Addr} {odBI anBI odM0 anM0 odM1 anM1 odM2 anM2 odM3 anM3 odM4 anM4 odM5 anM5 odM6 anM6 odCI anCI odBE anBE odBM anBM odBS anBS odBN anBN odBD anBD odBL anBL odBT anBT odBQ anBQ : Option Addr} {slBI slM0 slM1 slM2 slM3 slM4 slM5 slM6 slCI slBE slBM slBS slBN slBD slBL slBT slBQ : Array (Option Value)} {ocBI kVBI dcBI pmBI cdBI ctBI ocM0 kVM0 dcM0 pmM0 cdM0 ctM0 ocM1 kVM1 dcM1 pmM1 cdM1 ctM1 ocM2 kVM2 dcM2 pmM2 cdM2 ctM2 ocM3 kVM3 dcM3 pmM3 cdM3 ctM3 ocM4 kVM4 dcM4 pmM4 cdM4 ctM4 ocM5 kVM5 dcM5 pmM5 cdM5 ctM5 ocM6 kVM6 dcM6 pmM6 cdM6 ctM6 ocCI kVCI dcCI pmCI cdCI ctCI ocBE kVBE dcBE pmBE cdBE ctBE ocBM kVBM dcBM pmBM cdBM ctBM ocBS kVBS dcBS pmBS cdBS ctBS ocBN kVBN dcBN pmBN cdBN ctBN ocBD kVBD dcBD pmBD cdBD ctBD ocBL kVBL dcBL pmBL cdBL ctBL ocBT kVBT dcBT pmBT cdBT ctBT ocBQ kVBQ dcBQ pmBQ cdBQ ctBQ : Value}
    (aBe : PySem.W.nsIn K mainGlobals "Bench" = some (some (.ref cB)))
    (qaBI : PySem.W.findIn K (.ref cB) "__init__" = some (some (.ref fBI))) (qiBI : PySem.W.isFn K (.ref fBI) = true) (qlBI : K.lookup fBI = some ⟨ocBI, odBI, .func (PySem.W.fnOf "__init__" "Bench.__init__" (defArgs sBI) (defBody sBI) (defScope sBI) .none kVBI dcBI pmBI anBI cdBI ctBI), slBI⟩) (qcBI : PySem.W.codeIn K cdBI "Bench.__init__" = true) (qkBI : PySem.W.keepIn K (.ref fBI) = true)
    (qaM0 : PySem.W.findIn K (.ref cB) "set_capacity" = some (some (.ref fM0))) (qiM0 : PySem.W.isFn K (.ref fM0) = true) (qlM0 : K.lookup fM0 = some ⟨ocM0, odM0, .func (PySem.W.fnOf "set_capacity" "Bench.set_capacity" (defArgs sM0) (defBody sM0) (defScope sM0) .none kVM0 dcM0 pmM0 anM0 cdM0 ctM0), slM0⟩) (qcM0 : PySem.W.codeIn K cdM0 "Bench.set_capacity" = true) (qkM0 : PySem.W.keepIn K (.ref fM0) = true)
    (qaM1 : PySem.W.findIn K (.ref cB) "set_count" = some (some (.ref fM1))) (qiM1 : PySem.W.isFn K (.ref fM1) = true) (qlM1 : K.lookup fM1 = some ⟨ocM1, odM1, .func (PySem.W.fnOf "set_count" "Bench.set_count" (defArgs sM1) (defBody sM1) (defScope sM1) .none kVM1 dcM1 pmM1 anM1 cdM1 ctM1), slM1⟩) (qcM1 : PySem.W.codeIn K cdM1 "Bench.set_count" = true) (qkM1 : PySem.W.keepIn K (.ref fM1) = true)
    (qaM2 : PySem.W.findIn K (.ref cB) "set_list" = some (some (.ref fM2))) (qiM2 : PySem.W.isFn K (.ref fM2) = true) (qlM2 : K.lookup fM2 = some ⟨ocM2, odM2, .func (PySem.W.fnOf "set_list" "Bench.set_list" (defArgs sM2) (defBody sM2) (defScope sM2) .none kVM2 dcM2 pmM2 anM2 cdM2 ctM2), slM2⟩) (qcM2 : PySem.W.codeIn K cdM2 "Bench.set_list" = true) (qkM2 : PySem.W.keepIn K (.ref fM2) = true)
    (qaM3 : PySem.W.findIn K (.ref cB) "add_group" = some (some (.ref fM3))) (qiM3 : PySem.W.isFn K (.ref fM3) = true) (qlM3 : K.lookup fM3 = some ⟨ocM3, odM3, .func (PySem.W.fnOf "add_group" "Bench.add_group" (defArgs sM3) (defBody sM3) (defScope sM3) .none kVM3 dcM3 pmM3 anM3 cdM3 ctM3), slM3⟩) (qcM3 : PySem.W.codeIn K cdM3 "Bench.add_group" = true) (qkM3 : PySem.W.keepIn K (.ref fM3) = true)
    (qaM4 : PySem.W.findIn K (.ref cB) "remove_group" = some (some (.ref fM4))) (qiM4 : PySem.W.isFn K (.ref fM4) = true) (qlM4 : K.lookup fM4 = some ⟨ocM4, odM4, .func (PySem.W.fnOf "remove_group" "Bench.remove_group" (defArgs sM4) (defBody sM4) (defScope sM4) .none kVM4 dcM4 pmM4 anM4 cdM4 ctM4), slM4⟩) (qcM4 : PySem.W.codeIn K cdM4 "Bench.remove_group" = true) (qkM4 : PySem.W.keepIn K (.ref fM4) = true)
    (qaM5 : PySem.W.findIn K (.ref cB) "add_post" = some (some (.ref fM5))) (qiM5 : PySem.W.isFn K (.ref fM5) = true) (qlM5 : K.lookup fM5 = some ⟨ocM5, odM5, .func (PySem.W.fnOf "add_post" "Bench.add_post" (defArgs sM5) (defBody sM5) (defScope sM5) .none kVM5 dcM5 pmM5 anM5 cdM5 ctM5), slM5⟩) (qcM5 : PySem.W.codeIn K cdM5 "Bench.add_post" = true) (qkM5 : PySem.W.keepIn K (.ref fM5) = true)
    (qaM6 : PySem.W.findIn K (.ref cB) "remove_post" = some (some (.ref fM6))) (qiM6 : PySem.W.isFn K (.ref fM6) = true) (qlM6 : K.lookup fM6 = some ⟨ocM6, odM6, .func (PySem.W.fnOf "remove_post" "Bench.remove_post" (defArgs sM6) (defBody sM6) (defScope sM6) .none kVM6 dcM6 pmM6 anM6 cdM6 ctM6), slM6⟩) (qcM6 : PySem.W.codeIn K cdM6 "Bench.remove_post" = true) (qkM6 : PySem.W.keepIn K (.ref fM6) = true)
    (qaCI : PySem.W.findIn K (.ref cB) "check_idle" = some (some (.ref fCI))) (qiCI : PySem.W.isFn K (.ref fCI) = true) (qlCI : K.lookup fCI = some ⟨ocCI, odCI, .func (PySem.W.fnOf "check_idle" "Bench.check_idle" (defArgs sCI) (defBody sCI) (defScope sCI) .none kVCI dcCI pmCI anCI cdCI ctCI), slCI⟩) (qcCI : PySem.W.codeIn K cdCI "Bench.check_idle" = true) (qkCI : PySem.W.keepIn K (.ref fCI) = true)
    (qaBE : PySem.W.findIn K (.ref cB) "edit" = some (some (.ref fBE))) (qiBE : PySem.W.isFn K (.ref fBE) = true) (qlBE : K.lookup fBE = some ⟨ocBE, odBE, .func (PySem.W.fnOf "edit" "Bench.edit" (defArgs sBE) (defBody sBE) (defScope sBE) .none kVBE dcBE pmBE anBE cdBE ctBE), slBE⟩) (qcBE : PySem.W.codeIn K cdBE "Bench.edit" = true) (qkBE : PySem.W.keepIn K (.ref fBE) = true)
    (qaBM : PySem.W.findIn K (.ref cB) "make" = some (some (.ref fBM))) (qiBM : PySem.W.isFn K (.ref fBM) = true) (qlBM : K.lookup fBM = some ⟨ocBM, odBM, .func (PySem.W.fnOf "make" "Bench.make" (defArgs sBM) (defBody sBM) (defScope sBM) .none kVBM dcBM pmBM anBM cdBM ctBM), slBM⟩) (qcBM : PySem.W.codeIn K cdBM "Bench.make" = true) (qkBM : PySem.W.keepIn K (.ref fBM) = true)
    (qaBS : PySem.W.findIn K (.ref cB) "state" = some (some (.ref fBS))) (qiBS : PySem.W.isFn K (.ref fBS) = true) (qlBS : K.lookup fBS = some ⟨ocBS, odBS, .func (PySem.W.fnOf "state" "Bench.state" (defArgs sBS) (defBody sBS) (defScope sBS) .none kVBS dcBS pmBS anBS cdBS ctBS), slBS⟩) (qcBS : PySem.W.codeIn K cdBS "Bench.state" = true) (qkBS : PySem.W.keepIn K (.ref fBS) = true)
    (qaBN : PySem.W.findIn K (.ref cB) "instance" = some (some (.ref fBN))) (qiBN : PySem.W.isFn K (.ref fBN) = true) (qlBN : K.lookup fBN = some ⟨ocBN, odBN, .func (PySem.W.fnOf "instance" "Bench.instance" (defArgs sBN) (defBody sBN) (defScope sBN) .none kVBN dcBN pmBN anBN cdBN ctBN), slBN⟩) (qcBN : PySem.W.codeIn K cdBN "Bench.instance" = true) (qkBN : PySem.W.keepIn K (.ref fBN) = true)
    {DABN : Addr} {uABN : Value} (dA1BN : kVBN = .ref DABN) (dA2BN : PySem.W.nsIn K DABN "version" = some (some uABN)) (dA3BN : RelV .non uABN)
    (qaBD : PySem.W.findIn K (.ref cB) "edits" = some (some (.ref fBD))) (qiBD : PySem.W.isFn K (.ref fBD) = true) (qlBD : K.lookup fBD = some ⟨ocBD, odBD, .func (PySem.W.fnOf "edits" "Bench.edits" (defArgs sBD) (defBody sBD) (defScope sBD) .none kVBD dcBD pmBD anBD cdBD ctBD), slBD⟩) (qcBD : PySem.W.codeIn K cdBD "Bench.edits" = true) (qkBD : PySem.W.keepIn K (.ref fBD) = true)
    (qaBL : PySem.W.findIn K (.ref cB) "__len__" = some (some (.ref fBL))) (qiBL : PySem.W.isFn K (.ref fBL) = true) (qlBL : K.lookup fBL = some ⟨ocBL, odBL, .func (PySem.W.fnOf "__len__" "Bench.__len__" (defArgs sBL) (defBody sBL) (defScope sBL) .none kVBL dcBL pmBL anBL cdBL ctBL), slBL⟩) (qcBL : PySem.W.codeIn K cdBL "Bench.__len__" = true) (qkBL : PySem.W.keepIn K (.ref fBL) = true)
    (qaBT : PySem.W.findIn K (.ref cB) "__str__" = some (some (.ref fBT))) (qiBT : PySem.W.isFn K (.ref fBT) = true) (qlBT : K.lookup fBT = some ⟨ocBT, odBT, .func (PySem.W.fnOf "__str__" "Bench.__str__" (defArgs sBT) (defBody sBT) (defScope sBT) .none kVBT dcBT pmBT anBT cdBT ctBT), slBT⟩) (qcBT : PySem.W.codeIn K cdBT "Bench.__str__" = true) (qkBT : PySem.W.keepIn K (.ref fBT) = true)
    (qaBQ : PySem.W.findIn K (.ref cB) "__eq__" = some (some (.ref fBQ))) (qiBQ : PySem.W.isFn K (.ref fBQ) = true) (qlBQ : K.lookup fBQ = some ⟨ocBQ, odBQ, .func (PySem.W.fnOf "__eq__" "Bench.__eq__" (defArgs sBQ) (defBody sBQ) (defScope sBQ) .none kVBQ dcBQ pmBQ anBQ cdBQ ctBQ), slBQ⟩) (qcBQ : PySem.W.codeIn K cdBQ "Bench.__eq__" = true) (qkBQ : PySem.W.keepIn K (.ref fBQ) = true)
    (pgT : PySem.W.plainGet K cB Str.empty = true) (hdT : PySem.W.hasDictIn K cB = true) (poT : PySem.W.plainOver K cB = true) (saT : PySem.W.findIn K (.ref cB) "__setattr__" = some (some (.builtin "object.__setattr__"))) (mkT : PySem.W.makesIn K cB = true) (kcT : PySem.W.keepIn K (.ref cB) = true)
    (nS : PySem.W.findIn K (.ref cB) "states" = some none) (nM : PySem.W.findIn K (.ref cB) "made" = some none) (nP : PySem.W.findIn K (.ref cB) "stepping" = some none)
    (tca : PySem.W.findIn K (.ref cB) "__class__" = some (some (.builtin "object.__class__"))) (tcn : PySem.W.specialIn K (.builtin "object.__class__") "__get__" = some (some (.builtin "getset_descriptor.__get__"))) (tct : PySem.W.takesIn K (.builtin "object.__class__") = some true) (tcm : PySem.W.mroIn K cB (.type "object") = some true) (tki : PySem.W.kitOne K (.ref cB) (.ref cB) = some true)
    : ∃ fd : FuncData, (∀ (s : Shared) (v : Value), BindsTo s fd ⟨[v], []⟩ [("_law_script", v)]) ∧ ∀ base : Heap, K.In base → base.Ns mainGlobals mg → FnG l.prog w K mg base 12 fa fd ["_law_script"] (spLaw K) := by
  have e := hfa.symm.trans (PySem.W.mg_of X G aLaw)
  cases e
  have FWh := fun_mk (st := sWhole) lWh cWh kWh
  have bWh := FWh.binds (ps := ["value"]) fun _ _ _ _ _ _ us hl => match us, hl with | [_], _ => rfl
  have gWh := PySem.W.mg_of X G aWh
  have FWi := fun_mk (st := sWithin) lWi cWi kWi
  have bWi := FWi.binds (ps := ["value", "least", "most"]) fun _ _ _ _ _ _ us hl => match us, hl with | [_, _, _], _ => rfl
  have gWi := PySem.W.mg_of X G aWi
  have FTo := fun_mk (st := sTupOf) lTo cTo kTo
  have bTo := FTo.binds (ps := ["value", "least", "most"]) fun _ _ _ _ _ _ us hl => match us, hl with | [_, _, _], _ => rfl
  have gTo := PySem.W.mg_of X G aTo
  have FIE := fun_mk (st := sIErr) lIE cIE kIE
  have bIE := FIE.binds (ps := ["value"]) fun _ _ _ _ _ _ us hl => match us, hl with | [_], _ => rfl
  have gIE := PySem.W.mg_of X G aIE
  have FPE := fun_mk (st := sPErr) lPE cPE kPE
  have bPE := FPE.binds (ps := ["posts"]) fun _ _ _ _ _ _ us hl => match us, hl with | [_], _ => rfl
  have gPE := PySem.W.mg_of X G aPE
  have FGE := fun_mk (st := sGErr) lGE cGE kGE
  have bGE := FGE.binds (ps := ["groups", "post_count"]) fun _ _ _ _ _ _ us hl => match us, hl with | [_, _], _ => rfl
  have gGE := PySem.W.mg_of X G aGE
  have FPL := fun_mk (st := sPList) lPL cPL kPL
  have bPL := FPL.binds (ps := ["value", "post_count"]) fun _ _ _ _ _ _ us hl => match us, hl with | [_, _], _ => rfl
  have gPL := PySem.W.mg_of X G aPL
  have FIP := fun_mk (st := sIP) lIP cIP kIP
  have bIP := FIP.binds (ps := ["instance", "value"]) fun _ _ _ _ _ _ us hl => match us, hl with | [_, _], _ => rfl
  have gIP := PySem.W.mg_of X G aIP
  have FIG := fun_mk (st := sIG) lIG cIG kIG
  have bIG := FIG.binds (ps := ["instance", "value"]) fun _ _ _ _ _ _ us hl => match us, hl with | [_, _], _ => rfl
  have gIG := PySem.W.mg_of X G aIG
  have FWI := fun_mk (st := sWI) lWI cWI kWI
  have bWI := FWI.binds (ps := ["items", "at", "item"]) fun _ _ _ _ _ _ us hl => match us, hl with | [_, _, _], _ => rfl
  have gWI := PySem.W.mg_of X G aWI
  have FWC := fun_mk (st := sWC) lWC cWC kWC
  have bWC := FWC.binds (ps := ["instance", "post", "capacity"]) fun _ _ _ _ _ _ us hl => match us, hl with | [_, _, _], _ => rfl
  have gWC := PySem.W.mg_of X G aWC
  have FWN := fun_mk (st := sWN) lWN cWN kWN
  have bWN := FWN.binds (ps := ["instance", "group", "count"]) fun _ _ _ _ _ _ us hl => match us, hl with | [_, _, _], _ => rfl
  have gWN := PySem.W.mg_of X G aWN
  have FWL := fun_mk (st := sWL) lWL cWL kWL
  have bWL := FWL.binds (ps := ["instance", "group", "posts"]) fun _ _ _ _ _ _ us hl => match us, hl with | [_, _, _], _ => rfl
  have gWL := PySem.W.mg_of X G aWL
  have FAG := fun_mk (st := sAG) lAG cAG kAG
  have bAG := FAG.binds (ps := ["instance", "posts", "count"]) fun _ _ _ _ _ _ us hl => match us, hl with | [_, _, _], _ => rfl
  have gAG := PySem.W.mg_of X G aAG
  have FRG := fun_mk (st := sRG) lRG cRG kRG
  have bRG := FRG.binds (ps := ["instance", "group"]) fun _ _ _ _ _ _ us hl => match us, hl with | [_, _], _ => rfl
  have gRG := PySem.W.mg_of X G aRG
  have FAP := fun_mk (st := sAP) lAP cAP kAP
  have bAP := FAP.binds (ps := ["instance", "capacity"]) fun _ _ _ _ _ _ us hl => match us, hl with | [_, _], _ => rfl
  have gAP := PySem.W.mg_of X G aAP
  have FRP := fun_mk (st := sRP) lRP cRP kRP
  have bRP := FRP.binds (ps := ["instance", "post"]) fun _ _ _ _ _ _ us hl => match us, hl with | [_, _], _ => rfl
  have gRP := PySem.W.mg_of X G aRP
  have FPW := fun_mk (st := sPW) lPW cPW kPW
  have bPW := FPW.binds (ps := ["posts", "gone"]) fun _ _ _ _ _ _ us hl => match us, hl with | [_, _], _ => rfl
  have gPW := PySem.W.mg_of X G aPW
  have FEe := fun_mk (st := sEe) lEe cEe kEe
  have bEe := FEe.binds (ps := ["instance", "edit"]) fun _ _ _ _ _ _ us hl => match us, hl with | [_, _], _ => rfl
  have gEe := PySem.W.mg_of X G aEe
  have FSu := fun_mk (st := sSu) lSu cSu kSu
  have bSu := FSu.binds (ps := ["instance"]) fun _ _ _ _ _ _ us hl => match us, hl with | [_], _ => rfl
  have gSu := PySem.W.mg_of X G aSu
  have FSt := fun_mk (st := sSt) lSt cSt kSt
  have bSt := FSt.binds (ps := ["_law_script", "_law_turn"]) fun _ _ _ _ _ _ us hl => match us, hl with | [_, _], _ => rfl
  have gSt := PySem.W.mg_of X G aSt
  have FTa := fun_mk (st := sTa) lTa cTa kTa
  have bTa := FTa.binds (ps := ["_law_stream_here", "_law_many"]) fun _ _ _ _ _ _ us hl => match us, hl with | [_, _], _ => rfl
  have gTa := PySem.W.mg_of X G aTa
  have FFr := fun_mk (st := sFr) lFr cFr kFr
  have bFr := FFr.binds (ps := ["_law_thing", "_law_low", "_law_high"]) fun _ _ _ _ _ _ us hl => match us, hl with | [_, _, _], _ => rfl
  have gFr := PySem.W.mg_of X G aFr
  have FOO := fun_mk (st := sOO) lOO cOO kOO
  have bOO := FOO.binds (ps := ["_law_found"]) fun _ _ _ _ _ _ us hl => match us, hl with | [_], _ => rfl
  have gOO := PySem.W.mg_of X G aOO
  have FEq := fun_mk (st := sEq) lEq cEq kEq
  have bEq := FEq.binds (ps := ["_law_one", "_law_other"]) fun _ _ _ _ _ _ us hl => match us, hl with | [_, _], _ => rfl
  have gEq := PySem.W.mg_of X G aEq
  have FOd := fun_mk (st := sOd) lOd cOd kOd
  have bOd := FOd.binds (ps := ["_law_stream_here"]) fun _ _ _ _ _ _ us hl => match us, hl with | [_], _ => rfl
  have gOd := PySem.W.mg_of X G aOd
  have FLi := fun_mk (st := sLi) lLi cLi kLi
  have bLi := FLi.binds (ps := ["_law_stream_here", "_law_many"]) fun _ _ _ _ _ _ us hl => match us, hl with | [_, _], _ => rfl
  have gLi := PySem.W.mg_of X G aLi
  have FSz := fun_mk (st := sSz) lSz cSz kSz
  have bSz := FSz.binds (ps := ["_law_stream_here"]) fun _ _ _ _ _ _ us hl => match us, hl with | [_], _ => rfl
  have gSz := PySem.W.mg_of X G aSz
  have FIn := fun_mk (st := sIn) lIn cIn kIn
  have bIn := FIn.binds (ps := ["_law_stream_here", "_law_posts", "_law_groups"]) fun _ _ _ _ _ _ us hl => match us, hl with | [_, _, _], _ => rfl
  have gIn := PySem.W.mg_of X G aIn
  have FLP := fun_mk (st := sLP) lLP cLP kLP
  have bLP := FLP.binds (ps := ["_law_items", "_law_spot", "_law_item"]) fun _ _ _ _ _ _ us hl => match us, hl with | [_, _, _], _ => rfl
  have gLP := PySem.W.mg_of X G aLP
  have FIL := fun_mk (st := sIL) lIL cIL kIL
  have bIL := FIL.binds (ps := ["_law_instance_here", "_law_value"]) fun _ _ _ _ _ _ us hl => match us, hl with | [_, _], _ => rfl
  have gIL := PySem.W.mg_of X G aIL
  have FD0 := fun_mk (st := sD0) lD0 cD0 kD0
  have bD0 := FD0.binds (ps := ["_law_instance_here", "_law_edit"]) fun _ _ _ _ _ _ us hl => match us, hl with | [_, _], _ => rfl
  have gD0 := PySem.W.mg_of X G aD0
  have FD1 := fun_mk (st := sD1) lD1 cD1 kD1
  have bD1 := FD1.binds (ps := ["_law_instance_here", "_law_edit"]) fun _ _ _ _ _ _ us hl => match us, hl with | [_, _], _ => rfl
  have gD1 := PySem.W.mg_of X G aD1
  have FD2 := fun_mk (st := sD2) lD2 cD2 kD2
  have bD2 := FD2.binds (ps := ["_law_instance_here", "_law_edit"]) fun _ _ _ _ _ _ us hl => match us, hl with | [_, _], _ => rfl
  have gD2 := PySem.W.mg_of X G aD2
  have FDu := fun_mk (st := sDu) lDu cDu kDu
  have bDu := FDu.binds (ps := ["_law_instance_here", "_law_edit"]) fun _ _ _ _ _ _ us hl => match us, hl with | [_, _], _ => rfl
  have gDu := PySem.W.mg_of X G aDu
  have FDo := fun_mk (st := sDo) lDo cDo kDo
  have bDo := FDo.binds (ps := ["_law_bench", "_law_edit"]) fun _ _ _ _ _ _ us hl => match us, hl with | [_, _], _ => rfl
  have gDo := PySem.W.mg_of X G aDo
  have FKi := fun_mk (st := sKi) lKi cKi kKi
  have bKi := FKi.binds (ps := ["_law_error"]) fun _ _ _ _ _ _ us hl => match us, hl with | [_], _ => rfl
  have gKi := PySem.W.mg_of X G aKi
  have FAs := fun_mk (st := sAs) lAs cAs kAs
  have bAs := FAs.binds (ps := ["_law_bench", "_law_edit"]) fun _ _ _ _ _ _ us hl => match us, hl with | [_, _], _ => rfl
  have gAs := PySem.W.mg_of X G aAs
  have FSE := fun_mk (st := sSE) lSE cSE kSE
  have bSE := FSE.binds (ps := ["_law_stream_here", "_law_instance_here", "_law_words"]) fun _ _ _ _ _ _ us hl => match us, hl with | [_, _, _], _ => rfl
  have gSE := PySem.W.mg_of X G aSE
  have FSp := fun_mk (st := sSp) lSp cSp kSp
  have bSp := FSp.binds (ps := ["_law_stream_here", "_law_edit"]) fun _ _ _ _ _ _ us hl => match us, hl with | [_, _], _ => rfl
  have gSp := PySem.W.mg_of X G aSp
  have FTx := fun_mk (st := sTx) lTx cTx kTx
  have bTx := FTx.binds (ps := ["_law_instance_here", "_law_many"]) fun _ _ _ _ _ _ us hl => match us, hl with | [_, _], _ => rfl
  have gTx := PySem.W.mg_of X G aTx
  have FSe := fun_mk (st := sSe) lSe cSe kSe
  have bSe := FSe.binds (ps := ["_law_bench"]) fun _ _ _ _ _ _ us hl => match us, hl with | [_], _ => rfl
  have gSe := PySem.W.mg_of X G aSe
  have FDS := fun_mk (st := sDS) lDS cDS kDS
  have bDS := FDS.binds (ps := ["_law_instance_here", "_law_edits_done"]) fun _ _ _ _ _ _ us hl => match us, hl with | [_, _], _ => rfl
  have gDS := PySem.W.mg_of X G aDS
  have FMd := fun_mk (st := sMd) lMd cMd kMd
  have bMd := FMd.binds (ps := ["_law_value"]) fun _ _ _ _ _ _ us hl => match us, hl with | [_], _ => rfl
  have gMd := PySem.W.mg_of X G aMd
  have FGF := fun_mk (st := sGF) lGF cGF kGF
  have bGF := FGF.binds (ps := ["_law_instance_here", "_law_group", "_law_item"]) fun _ _ _ _ _ _ us hl => match us, hl with | [_, _, _], _ => rfl
  have gGF := PySem.W.mg_of X G aGF
  have FLF := fun_mk (st := sLF) lLF cLF kLF
  have bLF := FLF.binds (ps := ["_law_value"]) fun _ _ _ _ _ _ us hl => match us, hl with | [_], _ => rfl
  have gLF := PySem.W.mg_of X G aLF
  have FBw := fun_mk (st := sBw) lBw cBw kBw
  have bBw := FBw.binds (ps := ["_law_stream_here", "_law_value", "_law_deep"]) fun _ _ _ _ _ _ us hl => match us, hl with | [_, _, _], _ => rfl
  have gBw := PySem.W.mg_of X G aBw
  have FMR := fun_mk (st := sMR) lMR cMR kMR
  have bMR := FMR.binds (ps := ["_law_stream_here", "_law_instance_here"]) fun _ _ _ _ _ _ us hl => match us, hl with | [_, _], _ => rfl
  have gMR := PySem.W.mg_of X G aMR
  have FLaw := fun_mk (st := sLaw) lLaw cLaw kLaw
  have m_isinstance := PySem.W.mg_none_of X G z0
  have m_int := PySem.W.mg_none_of X G z1
  have m_bool := PySem.W.mg_none_of X G z2
  have m_tuple := PySem.W.mg_none_of X G z3
  have m_list := PySem.W.mg_none_of X G z4
  have m_len := PySem.W.mg_none_of X G z5
  have m_all := PySem.W.mg_none_of X G z6
  have m_set := PySem.W.mg_none_of X G z7
  have m_sum := PySem.W.mg_none_of X G z8
  have m_range := PySem.W.mg_none_of X G z9
  have m_enumerate := PySem.W.mg_none_of X G z10
  have m_str := PySem.W.mg_none_of X G z11
  have m_repr := PySem.W.mg_none_of X G z12
  have m_ValueError := PySem.W.mg_none_of X G z13
  have m_sorted := PySem.W.mg_none_of X G z14
  have m_LookupError := PySem.W.mg_none_of X G z15
  have vBIG := PySem.W.mg_of X G y0
  have vPOSTS := PySem.W.mg_of X G y1
  have vGROUPS := PySem.W.mg_of X G y2
  have vEDITS := PySem.W.mg_of X G y3
  have gVE := PySem.W.mg_of X G aCVE
  have IVE := isCB_ok iCVE
  have gBN := PySem.W.mg_of X G aCBN
  have IBN := isCB_ok iCBN
  have gBL := PySem.W.mg_of X G aCBL
  have IBL := isCB_ok iCBL
  have gTM := PySem.W.mg_of X G aCTM
  have ITM := isCB_ok iCTM
  have gBI := PySem.W.mg_of X G aCBI
  have IBI := isCB_ok iCBI
  have gTE := PySem.W.mg_of X G aCTE
  have ITE := isCB_ok iCTE
  have gLO := PySem.W.mg_of X G aCLO
  have ILO := isCB_ok iCLO
  have gBu := PySem.W.mg_of X G aCBu
  have IBu := isCB_ok iCBu
  have gNP := PySem.W.mg_of X G aCNP
  have INP := isCB_ok iCNP
  have gNG := PySem.W.mg_of X G aCNG
  have ING := isCB_ok iCNG
  have gNV := PySem.W.mg_of X G aCNV
  have INV := isCB_ok iCNV
  have XBN := xf1B_ok bXBN ⟨_, _, _, _, _, _, _, _, _, _, _, _, _, _, _, lXBN, vXBN⟩
  have FiBN := fun_mk (st := siBN) lIBN cIBN kIBN
  have biBN := FiBN.binds (ps := ["self", "value"]) fun _ _ _ _ _ _ us hl => match us, hl with | [_, _], _ => rfl
  have XBL := xf1B_ok bXBL ⟨_, _, _, _, _, _, _, _, _, _, _, _, _, _, _, lXBL, vXBL⟩
  have FiBL := fun_mk (st := siBL) lIBL cIBL kIBL
  have biBL := FiBL.binds (ps := ["self", "value"]) fun _ _ _ _ _ _ us hl => match us, hl with | [_, _], _ => rfl
  have XTM := xf1B_ok bXTM ⟨_, _, _, _, _, _, _, _, _, _, _, _, _, _, _, lXTM, vXTM⟩
  have FiTM := fun_mk (st := siTM) lITM cITM kITM
  have biTM := FiTM.binds (ps := ["self", "limit"]) fun _ _ _ _ _ _ us hl => match us, hl with | [_, _], _ => rfl
  have XBI := xf2B_ok bXBI ⟨_, _, _, _, _, _, _, _, _, _, _, _, _, _, _, lXBI, vXBI⟩
  have FiBI := fun_mk (st := siBI) lIBI cIBI kIBI
  have biBI := FiBI.binds (ps := ["self", "path", "reason"]) fun _ _ _ _ _ _ us hl => match us, hl with | [_, _, _], _ => rfl
  have XNP := xl1B_ok bXNP ⟨_, _, _, _, _, _, _, _, _, _, _, _, _, _, lXNP⟩
  have FiNP := fun_mk (st := siNP) lINP cINP kINP
  have biNP := FiNP.binds (ps := ["self", "value"]) fun _ _ _ _ _ _ us hl => match us, hl with | [_, _], _ => rfl
  have XNG := xl1B_ok bXNG ⟨_, _, _, _, _, _, _, _, _, _, _, _, _, _, lXNG⟩
  have FiNG := fun_mk (st := siNG) lING cING kING
  have biNG := FiNG.binds (ps := ["self", "value"]) fun _ _ _ _ _ _ us hl => match us, hl with | [_, _], _ => rfl
  have XNV := xl1B_ok bXNV ⟨_, _, _, _, _, _, _, _, _, _, _, _, _, _, lXNV⟩
  have FiNV := fun_mk (st := siNV) lINV cINV kINV
  have biNV := FiNV.binds (ps := ["self", "value"]) fun _ _ _ _ _ _ us hl => match us, hl with | [_, _], _ => rfl
  have T : BBx K mg cB := ⟨⟨pgT, hdT, poT, saT⟩, nS, nM, nP, PySem.W.mg_of X G aBe, tca, tcn, tct, tcm, tki⟩
  have FBI := fun_mk (st := sBI) qlBI qcBI qkBI
  have bBI := FBI.binds (ps := ["self", "instance"]) fun _ _ _ _ _ _ us hl => match us, hl with | [_, _], _ => rfl
  have mBI : Mk K cB fBI := ⟨mkT, qaBI, qiBI, kcT⟩
  have FM0 := fun_mk (st := sM0) qlM0 qcM0 qkM0
  have bM0 := FM0.binds (ps := ["self", "post", "capacity"]) fun _ _ _ _ _ _ us hl => match us, hl with | [_, _, _], _ => rfl
  have mM0 : Meth K cB "set_capacity" fM0 := ⟨qaM0, qiM0, qkM0⟩
  have FM1 := fun_mk (st := sM1) qlM1 qcM1 qkM1
  have bM1 := FM1.binds (ps := ["self", "group", "count"]) fun _ _ _ _ _ _ us hl => match us, hl with | [_, _, _], _ => rfl
  have mM1 : Meth K cB "set_count" fM1 := ⟨qaM1, qiM1, qkM1⟩
  have FM2 := fun_mk (st := sM2) qlM2 qcM2 qkM2
  have bM2 := FM2.binds (ps := ["self", "group", "posts"]) fun _ _ _ _ _ _ us hl => match us, hl with | [_, _, _], _ => rfl
  have mM2 : Meth K cB "set_list" fM2 := ⟨qaM2, qiM2, qkM2⟩
  have FM3 := fun_mk (st := sM3) qlM3 qcM3 qkM3
  have bM3 := FM3.binds (ps := ["self", "posts", "count"]) fun _ _ _ _ _ _ us hl => match us, hl with | [_, _, _], _ => rfl
  have mM3 : Meth K cB "add_group" fM3 := ⟨qaM3, qiM3, qkM3⟩
  have FM4 := fun_mk (st := sM4) qlM4 qcM4 qkM4
  have bM4 := FM4.binds (ps := ["self", "group"]) fun _ _ _ _ _ _ us hl => match us, hl with | [_, _], _ => rfl
  have mM4 : Meth K cB "remove_group" fM4 := ⟨qaM4, qiM4, qkM4⟩
  have FM5 := fun_mk (st := sM5) qlM5 qcM5 qkM5
  have bM5 := FM5.binds (ps := ["self", "capacity"]) fun _ _ _ _ _ _ us hl => match us, hl with | [_, _], _ => rfl
  have mM5 : Meth K cB "add_post" fM5 := ⟨qaM5, qiM5, qkM5⟩
  have FM6 := fun_mk (st := sM6) qlM6 qcM6 qkM6
  have bM6 := FM6.binds (ps := ["self", "post"]) fun _ _ _ _ _ _ us hl => match us, hl with | [_, _], _ => rfl
  have mM6 : Meth K cB "remove_post" fM6 := ⟨qaM6, qiM6, qkM6⟩
  have FCI := fun_mk (st := sCI) qlCI qcCI qkCI
  have bCI := FCI.binds (ps := ["self"]) fun _ _ _ _ _ _ us hl => match us, hl with | [_], _ => rfl
  have mCI : Meth K cB "check_idle" fCI := ⟨qaCI, qiCI, qkCI⟩
  have FBE := fun_mk (st := sBE) qlBE qcBE qkBE
  have bBE := FBE.binds (ps := ["self", "edit"]) fun _ _ _ _ _ _ us hl => match us, hl with | [_, _], _ => rfl
  have mBE : Meth K cB "edit" fBE := ⟨qaBE, qiBE, qkBE⟩
  have FBM := fun_mk (st := sBM) qlBM qcBM qkBM
  have bBM := FBM.binds (ps := ["self", "edit"]) fun _ _ _ _ _ _ us hl => match us, hl with | [_, _], _ => rfl
  have mBM : Meth K cB "make" fBM := ⟨qaBM, qiBM, qkBM⟩
  have FBS := fun_mk (st := sBS) qlBS qcBS qkBS
  have bBS := FBS.binds (ps := ["self", "version"]) fun _ _ _ _ _ _ us hl => match us, hl with | [_, _], _ => rfl
  have mBS : Meth K cB "state" fBS := ⟨qaBS, qiBS, qkBS⟩
  have FBN := fun_mk (st := sBN) qlBN qcBN qkBN
  have hKwBN : L2.KwdV K kVBN [("version", V.non)] := .inr ⟨DABN, dA1BN, fun q hq => by
    have e : q = (("version" : Str), V.non) := by simpa using hq
    rw [e]
    exact ⟨uABN, dA2BN, dA3BN⟩⟩
  have FDABN : L2.FunD K "instance" "Bench.instance" (defArgs sBN) (defBody sBN) (defScope sBN) [] [("version", V.non)] fBN (PySem.W.fnOf "instance" "Bench.instance" (defArgs sBN) (defBody sBN) (defScope sBN) .none kVBN dcBN pmBN anBN cdBN ctBN) := ⟨⟨_, _, .none, _, _, _, _, _, _, _, rfl, qlBN, qcBN, .inl ⟨rfl, rfl⟩, hKwBN⟩, qkBN⟩
  obtain ⟨mvABN, bBN⟩ := FDABN.kbinds0 (ps := ["self", "version"]) 1 [] [("version", V.non)] (fun us mv _ => us ++ mv) (by simp) (fun q hq => hq) (fun r1 r2 _ => r1.append r2)
    (fun D doc pm an cdv ct us mv ws l1 l2 l3 => match us, mv, ws, l1, l2, l3 with | [_], [_], [], _, _, _ => ⟨_, _, _, _, _, _, rfl, rfl, rfl⟩)
  have mBN : Meth K cB "instance" fBN := ⟨qaBN, qiBN, qkBN⟩
  have FBD := fun_mk (st := sBD) qlBD qcBD qkBD
  have bBD := FBD.binds (ps := ["self"]) fun _ _ _ _ _ _ us hl => match us, hl with | [_], _ => rfl
  have mBD : Meth K cB "edits" fBD := ⟨qaBD, qiBD, qkBD⟩
  have FBL := fun_mk (st := sBL) qlBL qcBL qkBL
  have bBL := FBL.binds (ps := ["self"]) fun _ _ _ _ _ _ us hl => match us, hl with | [_], _ => rfl
  have mBL : BDu K cB "__len__" fBL := ⟨qaBL, qiBL⟩
  have FBT := fun_mk (st := sBT) qlBT qcBT qkBT
  have bBT := FBT.binds (ps := ["self"]) fun _ _ _ _ _ _ us hl => match us, hl with | [_], _ => rfl
  have mBT : BDu K cB "__str__" fBT := ⟨qaBT, qiBT⟩
  have FBQ := fun_mk (st := sBQ) qlBQ qcBQ qkBQ
  have bBQ := FBQ.binds (ps := ["self", "other"]) fun _ _ _ _ _ _ us hl => match us, hl with | [_, _], _ => rfl
  have mBQ : BDu K cB "__eq__" fBQ := ⟨qaBQ, qiBQ⟩
  refine ⟨PySem.W.fnOf "law" "law" (defArgs sLaw) (defBody sLaw) (defScope sLaw) .none kVLaw dcLaw pmLaw anLaw cdLaw ctLaw, fun s v => .of_eq rfl, fun base _ _ => ?_⟩
  have GiBN := ok_iBN (P := l.prog) (w := w) (base := base) (mg := mg) FiBN XBN
  have GiBL := ok_iBL (P := l.prog) (w := w) (base := base) (mg := mg) FiBL XBL
  have GiTM := ok_iTM (P := l.prog) (w := w) (base := base) (mg := mg) FiTM XTM
  have GiBI := ok_iBI (P := l.prog) (w := w) (base := base) (mg := mg) FiBI XBI
  have GiNP := ok_iNP (P := l.prog) (w := w) (base := base) (mg := mg) FiNP XNP
  have GiNG := ok_iNG (P := l.prog) (w := w) (base := base) (mg := mg) FiNG XNG
  have GiNV := ok_iNV (P := l.prog) (w := w) (base := base) (mg := mg) FiNV XNV
  have XB : ExB K cVE cTE cNP cNG cBN cBL cTM cLO := ⟨ebTE, fun k => match k with | 0 => ebNP | 1 => ebNG | 2 => ebBN | 3 => ebBL | 4 => ebTM | _ + 5 => ebLO⟩
  have XX : KX K (clE cNP cNG cBN cBL cTM cLO) := ⟨fun k hk => match k, hk with | 0, _ => INP | 1, _ => ING | 2, _ => IBN | 3, _ => IBL | 4, _ => ITM | 5, _ => ILO | n + 6, h => absurd h (by omega), fun k hk => match k, hk with | 0, _ => lkNP | 1, _ => lkNG | 2, _ => lkBN | 3, _ => lkBL | 4, _ => lkTM | 5, _ => lkLO | n + 6, h => absurd h (by omega), fun k hk => match k, hk with | 0, _ => veNP | 1, _ => veNG | 2, _ => veBN | 3, _ => veBL | 4, _ => veTM | 5, _ => veLO | n + 6, h => absurd h (by omega), fun k j hk hj => match k, hk with | 0, _ => (match j, hj with | 0, _ => ccNPNP | 1, _ => ccNPNG | 2, _ => ccNPBN | 3, _ => ccNPBL | 4, _ => ccNPTM | 5, _ => ccNPLO | n + 6, h => absurd h (by omega)) | 1, _ => (match j, hj with | 0, _ => ccNGNP | 1, _ => ccNGNG | 2, _ => ccNGBN | 3, _ => ccNGBL | 4, _ => ccNGTM | 5, _ => ccNGLO | n + 6, h => absurd h (by omega)) | 2, _ => (match j, hj with | 0, _ => ccBNNP | 1, _ => ccBNNG | 2, _ => ccBNBN | 3, _ => ccBNBL | 4, _ => ccBNTM | 5, _ => ccBNLO | n + 6, h => absurd h (by omega)) | 3, _ => (match j, hj with | 0, _ => ccBLNP | 1, _ => ccBLNG | 2, _ => ccBLBN | 3, _ => ccBLBL | 4, _ => ccBLTM | 5, _ => ccBLLO | n + 6, h => absurd h (by omega)) | 4, _ => (match j, hj with | 0, _ => ccTMNP | 1, _ => ccTMNG | 2, _ => ccTMBN | 3, _ => ccTMBL | 4, _ => ccTMTM | 5, _ => ccTMLO | n + 6, h => absurd h (by omega)) | 5, _ => (match j, hj with | 0, _ => ccLONP | 1, _ => ccLONG | 2, _ => ccLOBN | 3, _ => ccLOBL | 4, _ => ccLOTM | 5, _ => ccLOLO | n + 6, h => absurd h (by omega)) | n + 6, h => absurd h (by omega)⟩
  have GWh := ok_whole (P := l.prog) (w := w) (base := base) (mg := mg) (k := 0) FWh m_isinstance m_int m_bool
  have GWi := ok_within (P := l.prog) (w := w) (base := base) (mg := mg) (k := 0) FWi FWh bWh gWh GWh
  have GTo := ok_tupOf (P := l.prog) (w := w) (base := base) (mg := mg) (k := 0) FTo m_isinstance m_tuple m_len
  have GPL := ok_plist (P := l.prog) (w := w) (base := base) (mg := mg) (k := 0) FPL FTo bTo gTo GTo FWi bWi gWi GWi m_len m_all m_set
  have GPE := ok_perr (P := l.prog) (w := w) (base := base) (mg := mg) (k := 0) FPE FTo bTo gTo GTo FWi bWi gWi GWi m_enumerate vPOSTS rPOSTS vBIG rBIG
  have GGE := ok_gerr (P := l.prog) (w := w) (base := base) (mg := mg) (k := 0) FGE FTo bTo gTo GTo FWi bWi gWi GWi FPL bPL gPL GPL m_enumerate vGROUPS rGROUPS vBIG rBIG
  have GIE := ok_ierr (P := l.prog) (w := w) (base := base) (mg := mg) (k := 0) FIE FTo bTo gTo GTo FPE bPE gPE GPE FGE bGE gGE GGE m_len
  have GIP := ok_IP (P := l.prog) (w := w) (base := base) (mg := mg) FIP  FWi bWi gWi GWi   m_len
  have GIG := ok_IG (P := l.prog) (w := w) (base := base) (mg := mg) FIG  FWi bWi gWi GWi   m_len
  have GWI := ok_WI (P := l.prog) (w := w) (base := base) (mg := mg) FWI     
  have GWC := ok_WC (P := l.prog) (w := w) (base := base) (mg := mg) FWC  FIP bIP gIP GIP FWi bWi gWi GWi FWI bWI gWI GWI gNP XNP GiNP biNP gBN XBN GiBN biBN vBIG rBIG 
  have GWN := ok_WN (P := l.prog) (w := w) (base := base) (mg := mg) FWN  FIG bIG gIG GIG FWi bWi gWi GWi FWI bWI gWI GWI gNG XNG GiNG biNG gBN XBN GiBN biBN vBIG rBIG 
  have GWL := ok_WL (P := l.prog) (w := w) (base := base) (mg := mg) FWL  FIG bIG gIG GIG FPL bPL gPL GPL FWI bWI gWI GWI gNG XNG GiNG biNG gBL XBL GiBL biBL  m_len
  have GAG := ok_AG (P := l.prog) (w := w) (base := base) (mg := mg) FAG  FPL bPL gPL GPL FWi bWi gWi GWi gBL XBL GiBL biBL gBN XBN GiBN biBN gTM XTM GiTM biTM vBIG rBIG vGROUPS rGROUPS m_len
  have GRG := ok_RG (P := l.prog) (w := w) (base := base) (mg := mg) FRG  FIG bIG gIG GIG gNG XNG GiNG biNG gLO ILO xLO  m_len
  have GAP := ok_AP (P := l.prog) (w := w) (base := base) (mg := mg) FAP  FWi bWi gWi GWi gBN XBN GiBN biBN gTM XTM GiTM biTM vBIG rBIG vPOSTS rPOSTS m_len
  have GPW := ok_PW (P := l.prog) (w := w) (base := base) (mg := mg) FPW     m_tuple
  have GRP := ok_RP (P := l.prog) (w := w) (base := base) (mg := mg) FRP  FIP bIP gIP GIP FPW bPW gPW GPW gNP XNP GiNP biNP gLO ILO xLO  m_len m_tuple
  have GEe := ok_Ee (P := l.prog) (w := w) (base := base) (mg := mg) FEe  FWC bWC gWC GWC FWN bWN gWN GWN FWL bWL gWL GWL FAG bAG gAG GAG FRG bRG gRG GRG FAP bAP gAP GAP FRP bRP gRP GRP   
  have GSu := ok_Su (P := l.prog) (w := w) (base := base) (mg := mg) FSu     m_sum m_len
  have GCI := ok_CI (P := l.prog) (w := w) (base := base) (mg := mg) T FCI   gBu IBu xBu  
  have GBM := ok_BM (P := l.prog) (w := w) (base := base) (mg := mg) T FBM  FEe bEe gEe GEe gTE ITE xTE vEDITS rEDITS m_len
  have GBE := ok_BE (P := l.prog) (w := w) (base := base) (mg := mg) T FBE  FCI bCI mCI GCI FBM bBM mBM GBM   
  have GM0 := ok_M0 (P := l.prog) (w := w) (base := base) (mg := mg) T FM0  FBE bBE mBE GBE   
  have GM1 := ok_M1 (P := l.prog) (w := w) (base := base) (mg := mg) T FM1  FBE bBE mBE GBE   
  have GM2 := ok_M2 (P := l.prog) (w := w) (base := base) (mg := mg) T FM2  FBE bBE mBE GBE   
  have GM3 := ok_M3 (P := l.prog) (w := w) (base := base) (mg := mg) T FM3  FBE bBE mBE GBE   
  have GM4 := ok_M4 (P := l.prog) (w := w) (base := base) (mg := mg) T FM4  FBE bBE mBE GBE   
  have GM5 := ok_M5 (P := l.prog) (w := w) (base := base) (mg := mg) T FM5  FBE bBE mBE GBE   
  have GM6 := ok_M6 (P := l.prog) (w := w) (base := base) (mg := mg) T FM6  FBE bBE mBE GBE   
  have GBS := ok_BS (P := l.prog) (w := w) (base := base) (mg := mg) T FBS  FWi bWi gWi GWi gNV XNV GiNV biNV  m_len
  have GBN := ok_BN (P := l.prog) (w := w) (base := base) (mg := mg) T FBN  FBS bBS mBS GBS   
  have GBI := ok_BI (P := l.prog) (w := w) (base := base) (mg := mg) T FBI  FIE bIE gIE GIE gBI XBI GiBI biBI  
  have GBD := ok_BD (P := l.prog) (w := w) (base := base) (mg := mg) T FBD     
  have GBL := ok_BL (P := l.prog) (w := w) (base := base) (mg := mg) T FBL     m_len
  have GBT := ok_BT (P := l.prog) (w := w) (base := base) (mg := mg) T FBT  FSu bSu gSu GSu   m_len
  have GBQ := ok_BQ (P := l.prog) (w := w) (base := base) (mg := mg) T FBQ     m_isinstance
  have GSt := ok_St (P := l.prog) (w := w) (base := base) (mg := mg) FSt     m_len
  have GTa := ok_Ta (P := l.prog) (w := w) (base := base) (mg := mg) FTa     
  have GLi := ok_Li (P := l.prog) (w := w) (base := base) (mg := mg) FLi  FTa bTa gTa GTa   m_list m_range m_len m_tuple
  have GSz := ok_Sz (P := l.prog) (w := w) (base := base) (mg := mg) FSz  FTa bTa gTa GTa   
  have GIn := ok_In (P := l.prog) (w := w) (base := base) (mg := mg) FIn  FTa bTa gTa GTa FSz bSz gSz GSz FLi bLi gLi GLi   m_range m_tuple
  have GOd := ok_Od (P := l.prog) (w := w) (base := base) (mg := mg) FOd  FTa bTa gTa GTa   
  have GLP := ok_LP (P := l.prog) (w := w) (base := base) (mg := mg) FLP     
  have GSp := ok_Sp (P := l.prog) (w := w) (base := base) (mg := mg) FSp  FTa bTa gTa GTa FOd bOd gOd GOd FLP bLP gLP GLP   m_range m_len
  have GSE := ok_SE (P := l.prog) (w := w) (base := base) (mg := mg) FSE  FTa bTa gTa GTa FLi bLi gLi GLi FSz bSz gSz GSz   m_len m_int
  have GDo := ok_Do (P := l.prog) (w := w) (base := base) (mg := mg) T FDo  FM0 bM0 mM0 GM0 FM1 bM1 mM1 GM1 FM2 bM2 mM2 GM2 FM3 bM3 mM3 GM3 FM4 bM4 mM4 GM4 FM5 bM5 mM5 GM5 FM6 bM6 mM6 GM6   
  have GFr := ok_Fr (P := l.prog) (w := w) (base := base) (mg := mg) FFr     m_int m_isinstance m_bool
  have GIL := ok_IL (P := l.prog) (w := w) (base := base) (mg := mg) FIL  FFr bFr gFr GFr   m_tuple m_isinstance m_len m_sorted m_set
  have GD0 := ok_D0 (P := l.prog) (w := w) (base := base) (mg := mg) FD0  FFr bFr gFr GFr FIL bIL gIL GIL FLP bLP gLP GLP   m_len m_int
  have GD1 := ok_D1 (P := l.prog) (w := w) (base := base) (mg := mg) FD1  FFr bFr gFr GFr FIL bIL gIL GIL   m_len m_int
  have GD2 := ok_D2 (P := l.prog) (w := w) (base := base) (mg := mg) FD2  FFr bFr gFr GFr   m_len m_int m_tuple
  have GDu := ok_Du (P := l.prog) (w := w) (base := base) (mg := mg) FDu  FD1 bD1 gD1 GD1 FD2 bD2 gD2 GD2 FD0 bD0 gD0 GD0   
  have GTx := ok_Tx (P := l.prog) (w := w) (base := base) (mg := mg) FTx     m_sum m_len m_str
  have GSe := ok_Se (P := l.prog) (w := w) (base := base) (mg := mg) T FSe  FBN bBN mBN GBN FBD bBD mBD GBD FBL bBL mBL GBL FBT bBT mBT GBT   m_len m_str
  have GDS := ok_DS (P := l.prog) (w := w) (base := base) (mg := mg) FDS  FTx bTx gTx GTx   m_len
  have GOO := ok_OO (P := l.prog) (w := w) (base := base) (mg := mg) FOO m_len m_int
  have GKi := ok_Ki (P := l.prog) (w := w) (base := base) (mg := mg) (fiLO := cLO) FKi FOO bOO gOO GOO gNP XNP gNG XNG gBN XBN gBL XBL gTM XTM gLO XX m_isinstance m_LookupError m_ValueError
  have GAs := ok_As (P := l.prog) (w := w) (base := base) (mg := mg) FAs FDo bDo gDo GDo FKi bKi gKi GKi gVE gNP gNG XB
  have GEq := ok_Eq3 (P := l.prog) (w := w) (base := base) (mg := mg) FEq m_repr
  have GMd := ok_Md (P := l.prog) (w := w) (base := base) (mg := mg) T FMd FBI bBI mBI GBI gBI XBI xmBI
  have GOd2 := ok_Od2 (P := l.prog) (w := w) (base := base) (mg := mg) FOd FTa bTa gTa GTa
  have GIL2 := ok_IL2 (P := l.prog) (w := w) (base := base) (mg := mg) FIL FFr bFr gFr GFr m_tuple m_isinstance m_len m_sorted m_set
  have GGF := ok_GF (P := l.prog) (w := w) (base := base) (mg := mg) FGF  FIL bIL gIL GIL2 FFr bFr gFr GFr   m_tuple m_isinstance m_len m_int
  have GLF := ok_LF (P := l.prog) (w := w) (base := base) (mg := mg) FLF  FFr bFr gFr GFr FGF bGF gGF GGF   m_tuple m_isinstance m_len m_enumerate
  have GBwA := ok_Bw (P := l.prog) (w := w) (base := base) (mg := mg) FBw bBw gBw FTa bTa gTa GTa FLP bLP gLP GLP FOd bOd gOd GOd2   m_tuple m_isinstance m_len m_list
  have GBw := GBwA 7
  have GMR := ok_MR (P := l.prog) (w := w) (base := base) (mg := mg) FMR  FBw bBw gBw GBw FMd bMd gMd GMd FLF bLF gLF GLF FEq bEq gEq GEq   m_list m_range
  exact ok_Law (P := l.prog) (w := w) (base := base) T FLaw  FSt bSt gSt GSt FIn bIn gIn GIn FBI bBI mBI GBI FTa bTa gTa GTa FSE bSE gSE GSE FSp bSp gSp GSp FDu bDu gDu GDu FAs bAs gAs GAs FEq bEq gEq GEq FSe bSe gSe GSe FDS bDS gDS GDS FMR bMR gMR GMR   m_range m_repr m_len
end Pv
/-! names that are taken, so that no second form of these large constants of the head is laid out: each would make the compiled file some tens of MB larger -/
def PySem.W.Fast.tw4764457838970586115 : Unit := ()
def PySem.W.Fast.tw9203023061346481065 : Unit := ()
def PySem.W.Fast.tw772936200163946167 : Unit := ()
def PySem.W.Fast.tw4024115536387930676 : Unit := ()
def PySem.W.Fast.tw1355622203869377162 : Unit := ()
open PySem PySem.W PyProof.Rows
set_option maxRecDepth 100000 in
set_option maxHeartbeats 0 in
theorem PySem.Challenge.cw_postvote_k60_benches_made_and_parts_set_holds : PySem.Challenge.rw_postvote_k60_benches_made_and_parts_set.Holds := by
  w_on; o_law; k_head; (case hw => w_witness2)
  k_fill
  refine Pv.walkG (l := PySem.Challenge.rw_postvote_k60_benches_made_and_parts_set) (n := 63) (k := 12) (x := "_law_script") (sp := fun w => Pv.spLaw _) rfl (by decide) rfl ⟨rfl, by decide, by decide⟩ (fun w h Y => PySem.W.kIn_of Y) ?F (fun _ _ a ns hl _ _ hS => ⟨a, ns, rfl, hS, hl, fun _ => rfl⟩)
  case F =>
    intro w mg fa h KX G hmg
    refine' Pv.all_mk KX G hmg ?aWh ?lWh ?cWh ?kWh ?aWi ?lWi ?cWi ?kWi ?aTo ?lTo ?cTo ?kTo ?aIE ?lIE ?cIE ?kIE ?aPE ?lPE ?cPE ?kPE ?aGE ?lGE ?cGE ?kGE ?aPL ?lPL ?cPL ?kPL ?aIP ?lIP ?cIP ?kIP ?aIG ?lIG ?cIG ?kIG ?aWI ?lWI ?cWI ?kWI ?aWC ?lWC ?cWC ?kWC ?aWN ?lWN ?cWN ?kWN ?aWL ?lWL ?cWL ?kWL ?aAG ?lAG ?cAG ?kAG ?aRG ?lRG ?cRG ?kRG ?aAP ?lAP ?cAP ?kAP ?aRP ?lRP ?cRP ?kRP ?aPW ?lPW ?cPW ?kPW ?aEe ?lEe ?cEe ?kEe ?aSu ?lSu ?cSu ?kSu ?aSt ?lSt ?cSt ?kSt ?aTa ?lTa ?cTa ?kTa ?aFr ?lFr ?cFr ?kFr ?aOO ?lOO ?cOO ?kOO ?aEq ?lEq ?cEq ?kEq ?aOd ?lOd ?cOd ?kOd ?aLi ?lLi ?cLi ?kLi ?aSz ?lSz ?cSz ?kSz ?aIn ?lIn ?cIn ?kIn ?aLP ?lLP ?cLP ?kLP ?aIL ?lIL ?cIL ?kIL ?aD0 ?lD0 ?cD0 ?kD0 ?aD1 ?lD1 ?cD1 ?kD1 ?aD2 ?lD2 ?cD2 ?kD2 ?aDu ?lDu ?cDu ?kDu ?aDo ?lDo ?cDo ?kDo ?aKi ?lKi ?cKi ?kKi ?aAs ?lAs ?cAs ?kAs ?aSE ?lSE ?cSE ?kSE ?aSp ?lSp ?cSp ?kSp ?aTx ?lTx ?cTx ?kTx ?aSe ?lSe ?cSe ?kSe ?aDS ?lDS ?cDS ?kDS ?aMd ?lMd ?cMd ?kMd ?aGF ?lGF ?cGF ?kGF ?aLF ?lLF ?cLF ?kLF ?aBw ?lBw ?cBw ?kBw ?aMR ?lMR ?cMR ?kMR ?aLaw ?lLaw ?cLaw ?kLaw ?z0 ?z1 ?z2 ?z3 ?z4 ?z5 ?z6 ?z7 ?z8 ?z9 ?z10 ?z11 ?z12 ?z13 ?z14 ?z15 ?y0 ?rBIG ?y1 ?rPOSTS ?y2 ?rGROUPS ?y3 ?rEDITS ?aCVE ?iCVE ?aCBN ?iCBN ?aCBL ?iCBL ?aCTM ?iCTM ?aCBI ?iCBI ?aCTE ?iCTE ?aCLO ?iCLO ?aCBu ?iCBu ?aCNP ?iCNP ?aCNG ?iCNG ?aCNV ?iCNV ?lXBN ?vXBN ?nXBN ?lIBN ?cIBN ?kIBN ?bXBN ?lXBL ?vXBL ?nXBL ?lIBL ?cIBL ?kIBL ?bXBL ?lXTM ?vXTM ?nXTM ?lITM ?cITM ?kITM ?bXTM ?lXBI ?vXBI ?nXBI ?lIBI ?cIBI ?kIBI ?bXBI ?lXNP ?nXNP ?lINP ?cINP ?kINP ?bXNP ?lXNG ?nXNG ?lING ?cING ?kING ?bXNG ?lXNV ?nXNV ?lINV ?cINV ?kINV ?bXNV ?xTE ?xLO ?xBu ?ebTE ?ebNP ?ebNG ?ebBN ?ebBL ?ebTM ?ebLO ?xmBI ?lkNP ?veNP ?ccNPNP ?ccNPNG ?ccNPBN ?ccNPBL ?ccNPTM ?ccNPLO ?lkNG ?veNG ?ccNGNP ?ccNGNG ?ccNGBN ?ccNGBL ?ccNGTM ?ccNGLO ?lkBN ?veBN ?ccBNNP ?ccBNNG ?ccBNBN ?ccBNBL ?ccBNTM ?ccBNLO ?lkBL ?veBL ?ccBLNP ?ccBLNG ?ccBLBN ?ccBLBL ?ccBLTM ?ccBLLO ?lkTM ?veTM ?ccTMNP ?ccTMNG ?ccTMBN ?ccTMBL ?ccTMTM ?ccTMLO ?lkLO ?veLO ?ccLONP ?ccLONG ?ccLOBN ?ccLOBL ?ccLOTM ?ccLOLO ?aBe ?qaBI ?qiBI ?qlBI ?qcBI ?qkBI ?qaM0 ?qiM0 ?qlM0 ?qcM0 ?qkM0 ?qaM1 ?qiM1 ?qlM1 ?qcM1 ?qkM1 ?qaM2 ?qiM2 ?qlM2 ?qcM2 ?qkM2 ?qaM3 ?qiM3 ?qlM3 ?qcM3 ?qkM3 ?qaM4 ?qiM4 ?qlM4 ?qcM4 ?qkM4 ?qaM5 ?qiM5 ?qlM5 ?qcM5 ?qkM5 ?qaM6 ?qiM6 ?qlM6 ?qcM6 ?qkM6 ?qaCI ?qiCI ?qlCI ?qcCI ?qkCI ?qaBE ?qiBE ?qlBE ?qcBE ?qkBE ?qaBM ?qiBM ?qlBM ?qcBM ?qkBM ?qaBS ?qiBS ?qlBS ?qcBS ?qkBS ?qaBN ?qiBN ?qlBN ?qcBN ?qkBN ?dA1BN ?dA2BN ?dA3BN ?qaBD ?qiBD ?qlBD ?qcBD ?qkBD ?qaBL ?qiBL ?qlBL ?qcBL ?qkBL ?qaBT ?qiBT ?qlBT ?qcBT ?qkBT ?qaBQ ?qiBQ ?qlBQ ?qcBQ ?qkBQ ?pgT ?hdT ?poT ?saT ?mkT ?kcT ?nS ?nM ?nP ?tca ?tcn ?tct ?tcm ?tki
    (case aWh => k_is); (case lWh => k_is); (case cWh => k_is); (case kWh => k_is); (case aWi => k_is); (case lWi => k_is); (case cWi => k_is); (case kWi => k_is); (case aTo => k_is); (case lTo => k_is); (case cTo => k_is); (case kTo => k_is); (case aIE => k_is); (case lIE => k_is); (case cIE => k_is); (case kIE => k_is); (case aPE => k_is); (case lPE => k_is); (case cPE => k_is); (case kPE => k_is); (case aGE => k_is); (case lGE => k_is); (case cGE => k_is); (case kGE => k_is); (case aPL => k_is); (case lPL => k_is); (case cPL => k_is); (case kPL => k_is); (case aIP => k_is); (case lIP => k_is); (case cIP => k_is); (case kIP => k_is); (case aIG => k_is); (case lIG => k_is); (case cIG => k_is); (case kIG => k_is); (case aWI => k_is); (case lWI => k_is); (case cWI => k_is); (case kWI => k_is); (case aWC => k_is); (case lWC => k_is); (case cWC => k_is); (case kWC => k_is); (case aWN => k_is); (case lWN => k_is); (case cWN => k_is); (case kWN => k_is); (case aWL => k_is); (case lWL => k_is); (case cWL => k_is); (case kWL => k_is); (case aAG => k_is); (case lAG => k_is); (case cAG => k_is); (case kAG => k_is); (case aRG => k_is); (case lRG => k_is); (case cRG => k_is); (case kRG => k_is); (case aAP => k_is); (case lAP => k_is); (case cAP => k_is); (case kAP => k_is); (case aRP => k_is); (case lRP => k_is); (case cRP => k_is); (case kRP => k_is); (case aPW => k_is); (case lPW => k_is); (case cPW => k_is); (case kPW => k_is); (case aEe => k_is); (case lEe => k_is); (case cEe => k_is); (case kEe => k_is); (case aSu => k_is); (case lSu => k_is); (case cSu => k_is); (case kSu => k_is); (case aSt => k_is); (case lSt => k_is); (case cSt => k_is); (case kSt => k_is); (case aTa => k_is); (case lTa => k_is); (case cTa => k_is); (case kTa => k_is); (case aFr => k_is); (case lFr => k_is); (case cFr => k_is); (case kFr => k_is); (case aOO => k_is); (case lOO => k_is); (case cOO => k_is); (case kOO => k_is); (case aEq => k_is); (case lEq => k_is); (case cEq => k_is); (case kEq => k_is); (case aOd => k_is); (case lOd => k_is); (case cOd => k_is); (case kOd => k_is); (case aLi => k_is); (case lLi => k_is); (case cLi => k_is); (case kLi => k_is); (case aSz => k_is); (case lSz => k_is); (case cSz => k_is); (case kSz => k_is); (case aIn => k_is); (case lIn => k_is); (case cIn => k_is); (case kIn => k_is); (case aLP => k_is); (case lLP => k_is); (case cLP => k_is); (case kLP => k_is); (case aIL => k_is); (case lIL => k_is); (case cIL => k_is); (case kIL => k_is); (case aD0 => k_is); (case lD0 => k_is); (case cD0 => k_is); (case kD0 => k_is); (case aD1 => k_is); (case lD1 => k_is); (case cD1 => k_is); (case kD1 => k_is); (case aD2 => k_is); (case lD2 => k_is); (case cD2 => k_is); (case kD2 => k_is); (case aDu => k_is); (case lDu => k_is); (case cDu => k_is); (case kDu => k_is); (case aDo => k_is); (case lDo => k_is); (case cDo => k_is); (case kDo => k_is); (case aKi => k_is); (case lKi => k_is); (case cKi => k_is); (case kKi => k_is); (case aAs => k_is); (case lAs => k_is); (case cAs => k_is); (case kAs => k_is); (case aSE => k_is); (case lSE => k_is); (case cSE => k_is); (case kSE => k_is); (case aSp => k_is); (case lSp => k_is); (case cSp => k_is); (case kSp => k_is); (case aTx => k_is); (case lTx => k_is); (case cTx => k_is); (case kTx => k_is); (case aSe => k_is); (case lSe => k_is); (case cSe => k_is); (case kSe => k_is); (case aDS => k_is); (case lDS => k_is); (case cDS => k_is); (case kDS => k_is); (case aMd => k_is); (case lMd => k_is); (case cMd => k_is); (case kMd => k_is); (case aGF => k_is); (case lGF => k_is); (case cGF => k_is); (case kGF => k_is); (case aLF => k_is); (case lLF => k_is); (case cLF => k_is); (case kLF => k_is); (case aBw => k_is); (case lBw => k_is); (case cBw => k_is); (case kBw => k_is); (case aMR => k_is); (case lMR => k_is); (case cMR => k_is); (case kMR => k_is); (case aLaw => k_is); (case lLaw => k_is); (case cLaw => k_is); (case kLaw => k_is); (case z0 => k_is); (case z1 => k_is); (case z2 => k_is); (case z3 => k_is); (case z4 => k_is); (case z5 => k_is); (case z6 => k_is); (case z7 => k_is); (case z8 => k_is); (case z9 => k_is); (case z10 => k_is); (case z11 => k_is); (case z12 => k_is); (case z13 => k_is); (case z14 => k_is); (case z15 => k_is); (case aCVE => k_is); (case iCVE => kernel_rfl); (case aCBN => k_is); (case iCBN => kernel_rfl); (case aCBL => k_is); (case iCBL => kernel_rfl); (case aCTM => k_is); (case iCTM => kernel_rfl); (case aCBI => k_is); (case iCBI => kernel_rfl); (case aCTE => k_is); (case iCTE => kernel_rfl); (case aCLO => k_is); (case iCLO => kernel_rfl); (case aCBu => k_is); (case iCBu => kernel_rfl); (case aCNP => k_is); (case iCNP => kernel_rfl); (case aCNG => k_is); (case iCNG => kernel_rfl); (case aCNV => k_is); (case iCNV => kernel_rfl); (case y0 => k_is); (case y1 => k_is); (case y2 => k_is); (case y3 => k_is); (case lXBN => k_is); (case vXBN => kernel_rfl); (case nXBN => k_is); (case lIBN => k_is); (case cIBN => k_is); (case kIBN => k_is); (case bXBN => kernel_rfl); (case lXBL => k_is); (case vXBL => kernel_rfl); (case nXBL => k_is); (case lIBL => k_is); (case cIBL => k_is); (case kIBL => k_is); (case bXBL => kernel_rfl); (case lXTM => k_is); (case vXTM => kernel_rfl); (case nXTM => k_is); (case lITM => k_is); (case cITM => k_is); (case kITM => k_is); (case bXTM => kernel_rfl); (case lXBI => k_is); (case vXBI => kernel_rfl); (case nXBI => k_is); (case lIBI => k_is); (case cIBI => k_is); (case kIBI => k_is); (case bXBI => kernel_rfl); (case lXNP => k_is); (case nXNP => k_is); (case lINP => k_is); (case cINP => k_is); (case kINP => k_is); (case bXNP => kernel_rfl); (case lXNG => k_is); (case nXNG => k_is); (case lING => k_is); (case cING => k_is); (case kING => k_is); (case bXNG => kernel_rfl); (case lXNV => k_is); (case nXNV => k_is); (case lINV => k_is); (case cINV => k_is); (case kINV => k_is); (case bXNV => kernel_rfl); (case xTE => kernel_rfl); (case xLO => kernel_rfl); (case xBu => kernel_rfl); (case ebTE => kernel_rfl); (case ebNP => kernel_rfl); (case ebNG => kernel_rfl); (case ebBN => kernel_rfl); (case ebBL => kernel_rfl); (case ebTM => kernel_rfl); (case ebLO => kernel_rfl); (case xmBI => kernel_rfl); (case lkNP => kernel_rfl); (case veNP => kernel_rfl); (case ccNPNP => kernel_rfl); (case ccNPNG => kernel_rfl); (case ccNPBN => kernel_rfl); (case ccNPBL => kernel_rfl); (case ccNPTM => kernel_rfl); (case ccNPLO => kernel_rfl); (case lkNG => kernel_rfl); (case veNG => kernel_rfl); (case ccNGNP => kernel_rfl); (case ccNGNG => kernel_rfl); (case ccNGBN => kernel_rfl); (case ccNGBL => kernel_rfl); (case ccNGTM => kernel_rfl); (case ccNGLO => kernel_rfl); (case lkBN => kernel_rfl); (case veBN => kernel_rfl); (case ccBNNP => kernel_rfl); (case ccBNNG => kernel_rfl); (case ccBNBN => kernel_rfl); (case ccBNBL => kernel_rfl); (case ccBNTM => kernel_rfl); (case ccBNLO => kernel_rfl); (case lkBL => kernel_rfl); (case veBL => kernel_rfl); (case ccBLNP => kernel_rfl); (case ccBLNG => kernel_rfl); (case ccBLBN => kernel_rfl); (case ccBLBL => kernel_rfl); (case ccBLTM => kernel_rfl); (case ccBLLO => kernel_rfl); (case lkTM => kernel_rfl); (case veTM => kernel_rfl); (case ccTMNP => kernel_rfl); (case ccTMNG => kernel_rfl); (case ccTMBN => kernel_rfl); (case ccTMBL => kernel_rfl); (case ccTMTM => kernel_rfl); (case ccTMLO => kernel_rfl); (case lkLO => kernel_rfl); (case veLO => kernel_rfl); (case ccLONP => kernel_rfl); (case ccLONG => kernel_rfl); (case ccLOBN => kernel_rfl); (case ccLOBL => kernel_rfl); (case ccLOTM => kernel_rfl); (case ccLOLO => kernel_rfl); (case rBIG => exact ⟨_, rfl⟩); (case rPOSTS => exact ⟨_, rfl⟩); (case rGROUPS => exact ⟨_, rfl⟩); (case rEDITS => exact ⟨_, rfl⟩); (case aBe => k_is); (case qaBI => k_is); (case qiBI => k_is); (case qlBI => k_is); (case qcBI => k_is); (case qkBI => k_is); (case qaM0 => k_is); (case qiM0 => k_is); (case qlM0 => k_is); (case qcM0 => k_is); (case qkM0 => k_is); (case qaM1 => k_is); (case qiM1 => k_is); (case qlM1 => k_is); (case qcM1 => k_is); (case qkM1 => k_is); (case qaM2 => k_is); (case qiM2 => k_is); (case qlM2 => k_is); (case qcM2 => k_is); (case qkM2 => k_is); (case qaM3 => k_is); (case qiM3 => k_is); (case qlM3 => k_is); (case qcM3 => k_is); (case qkM3 => k_is); (case qaM4 => k_is); (case qiM4 => k_is); (case qlM4 => k_is); (case qcM4 => k_is); (case qkM4 => k_is); (case qaM5 => k_is); (case qiM5 => k_is); (case qlM5 => k_is); (case qcM5 => k_is); (case qkM5 => k_is); (case qaM6 => k_is); (case qiM6 => k_is); (case qlM6 => k_is); (case qcM6 => k_is); (case qkM6 => k_is); (case qaCI => k_is); (case qiCI => k_is); (case qlCI => k_is); (case qcCI => k_is); (case qkCI => k_is); (case qaBE => k_is); (case qiBE => k_is); (case qlBE => k_is); (case qcBE => k_is); (case qkBE => k_is); (case qaBM => k_is); (case qiBM => k_is); (case qlBM => k_is); (case qcBM => k_is); (case qkBM => k_is); (case qaBS => k_is); (case qiBS => k_is); (case qlBS => k_is); (case qcBS => k_is); (case qkBS => k_is); (case qaBN => k_is); (case qiBN => k_is); (case qlBN => k_is); (case qcBN => k_is); (case qkBN => k_is); (case dA1BN => exact rfl); (case dA2BN => k_is); (case dA3BN => exact rfl); (case qaBD => k_is); (case qiBD => k_is); (case qlBD => k_is); (case qcBD => k_is); (case qkBD => k_is); (case qaBL => k_is); (case qiBL => k_is); (case qlBL => k_is); (case qcBL => k_is); (case qkBL => k_is); (case qaBT => k_is); (case qiBT => k_is); (case qlBT => k_is); (case qcBT => k_is); (case qkBT => k_is); (case qaBQ => k_is); (case qiBQ => k_is); (case qlBQ => k_is); (case qcBQ => k_is); (case qkBQ => k_is); (case pgT => k_is); (case hdT => k_is); (case poT => k_is); (case saT => k_is); (case mkT => k_is); (case kcT => k_is); (case nS => k_is); (case nM => k_is); (case nP => k_is); (case tca => kernel_rfl); (case tcn => kernel_rfl); (case tct => kernel_rfl); (case tcm => kernel_rfl); (case tki => kernel_rfl)
