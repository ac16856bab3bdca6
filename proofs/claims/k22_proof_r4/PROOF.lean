import PyProof.Rows.All
import Wide.All
import OpenK.AllK
import Wide.FinOn
import HandS.ForMost
import HandS.ForExc
import PyProof.ReprRoads
import PyProof.ReprText
import HandS.Lambda
import HandS.ExcInit
import HandS.ExcOwn
import HandS.ExcField
import HandS.IsInst
import HandS.Small
import KE.KExcIs
import HandS.Conv
import HandS.TupAny
import HandS.TupMul
import KE.KTupSum
import HandS.AnyAll
import HandS.EndTab
import PyProof.ConsumeS
import PyProof.SumAny
import HandS.GenList
import HandS.Zip
import KE.GoesEnum
import KE.GoesMore
import HandS.Iter
import PyProof.Rows.MinMaxGenD
import HandS.Wide
import HandS.Defaults
import PySem.Challenge.RW_besthours_k22_one_form_of_sums
set_option Elab.async false
set_option linter.all false
set_option maxRecDepth 100000
set_option maxHeartbeats 4000000
/-! KitA: values as plain data (Rep), repr of them, a call's promise that knows of no repr under way (FnG). -/
namespace BK
open PySem PySem.Spec PyProof.Rows L2

/-! ### a value that stands for plain data -/
mutual
inductive Rep (K : PySem.W.Frag) (H : Hp) : V → PyData → Prop
  | non : Rep K H .non .none
  | bl (b : Bool) : Rep K H (.bl b) (.bool b)
  | int (i : Int) : Rep K H (.int i) (.int i)
  | str (x : Str) : Rep K H (.str x) (.str x)
  | lst {a : Addr} {xs : List V} {ds : List PyData} (h : SqL K H a xs) (r : RepAll K H xs ds) : Rep K H (.ref a) (.list ds)
  | tup {a : Addr} {xs : List V} {ds : List PyData} (h : SqT K H a xs) (r : RepAll K H xs ds) : Rep K H (.ref a) (.tuple ds)
inductive RepAll (K : PySem.W.Frag) (H : Hp) : List V → List PyData → Prop
  | nil : RepAll K H [] []
  | cons {x : V} {d : PyData} {xs : List V} {ds : List PyData} (h : Rep K H x d) (r : RepAll K H xs ds) : RepAll K H (x :: xs) (d :: ds)
end
theorem rd_same {H H' : Hp} {a : Addr} {u : HO} (e : Same H H') (h : Rd H a u) : Rd H' a u := by
  rcases h with h | ⟨o, h⟩
  · exact Or.inl (e a _ h)
  · exact Or.inr ⟨o, e a _ h⟩
theorem sql_same {K : PySem.W.Frag} {H H' : Hp} {a : Addr} {xs : List V} (e : Same H H') (h : SqL K H a xs) : SqL K H' a xs := by
  rcases h with h | h
  · exact Or.inl (rd_same e h)
  · exact Or.inr h
theorem sqt_same {K : PySem.W.Frag} {H H' : Hp} {a : Addr} {xs : List V} (e : Same H H') (h : SqT K H a xs) : SqT K H' a xs := by
  rcases h with h | h
  · exact Or.inl (rd_same e h)
  · exact Or.inr h
mutual
theorem Rep.same {K : PySem.W.Frag} {H H' : Hp} (e : Same H H') : ∀ {v : V} {d : PyData}, Rep K H v d → Rep K H' v d
  | _, _, .non => .non
  | _, _, .bl b => .bl b
  | _, _, .int i => .int i
  | _, _, .str x => .str x
  | _, _, .lst h r => .lst (sql_same e h) (RepAll.same e r)
  | _, _, .tup h r => .tup (sqt_same e h) (RepAll.same e r)
theorem RepAll.same {K : PySem.W.Frag} {H H' : Hp} (e : Same H H') : ∀ {vs : List V} {ds : List PyData}, RepAll K H vs ds → RepAll K H' vs ds
  | _, _, .nil => .nil
  | _, _, .cons h r => .cons (Rep.same e h) (RepAll.same e r)
end
mutual
theorem Rep.noDict {K : PySem.W.Frag} {H : Hp} : ∀ {v : V} {d : PyData}, Rep K H v d → d.hasDict = false
  | _, _, .non => by simp only [PyData.hasDict]
  | _, _, .bl b => by simp only [PyData.hasDict]
  | _, _, .int i => by simp only [PyData.hasDict]
  | _, _, .str x => by simp only [PyData.hasDict]
  | _, _, .lst h r => by simp only [PyData.hasDict, RepAll.noDict r]
  | _, _, .tup h r => by simp only [PyData.hasDict, RepAll.noDict r]
theorem RepAll.noDict {K : PySem.W.Frag} {H : Hp} : ∀ {vs : List V} {ds : List PyData}, RepAll K H vs ds → PyData.hasDictAll ds = false
  | _, _, .nil => by simp only [PyData.hasDictAll]
  | _, _, .cons h r => by simp only [PyData.hasDictAll, Rep.noDict h, RepAll.noDict r, Bool.or_self]
end
theorem RepAll.length {K : PySem.W.Frag} {H : Hp} : ∀ {vs : List V} {ds : List PyData}, RepAll K H vs ds → vs.length = ds.length
  | _, _, .nil => rfl
  | _, _, .cons h r => congrArg Nat.succ (RepAll.length r)
theorem RepAll.append {K : PySem.W.Frag} {H : Hp} : ∀ {vs us : List V} {ds es : List PyData}, RepAll K H vs ds → RepAll K H us es → RepAll K H (vs ++ us) (ds ++ es)
  | _, _, _, _, .nil, h => h
  | _, _, _, _, .cons a r, h => .cons a (RepAll.append r h)
theorem RepAll.ints {K : PySem.W.Frag} {H : Hp} : ∀ (ns : List Int), RepAll K H (ns.map V.int) (ns.map PyData.int)
  | [] => .nil
  | n :: ns => .cons (.int n) (RepAll.ints ns)
section
variable {X : Cx} {pins : List (Addr × Obj)} {σ : L2.St} {H : Hp} {s : Shared}
mutual
theorem reads_of (I : Inv X pins σ H s) : ∀ {v : V} {d : PyData} {u : Value}, Rep X.K H v d → RelV v u → ∃ as, Reads s.heap u d as
  | _, _, _, .non, r => by cases r; exact ⟨_, .none⟩
  | _, _, _, .bl b, r => by cases r; exact ⟨_, .bool b⟩
  | _, _, _, .int i, r => by obtain ⟨t, rfl⟩ := r; exact ⟨_, .int i t⟩
  | _, _, _, .str x, r => by obtain ⟨t, rfl⟩ := r; exact ⟨_, .str x t⟩
  | _, _, _, .lst h ra, r => by
    cases r
    obtain ⟨its, rv, ⟨o, n, e1, e2, e3, e4⟩, _⟩ := I.list h
    obtain ⟨as, q⟩ := readsAll_of I ra rv
    exact ⟨_, .list e1 e2 e4 q⟩
  | _, _, _, .tup h ra, r => by
    cases r
    obtain ⟨its, rv, ⟨o, e1, e2, n, e4⟩, _⟩ := I.tuple h
    obtain ⟨as, q⟩ := readsAll_of I ra rv
    exact ⟨_, .tuple e1 e2 e4 q⟩
theorem readsAll_of (I : Inv X pins σ H s) : ∀ {vs : List V} {ds : List PyData} {us : List Value}, RepAll X.K H vs ds → Vals vs us → ∃ as, ReadsAll s.heap us ds as
  | _, _, _, .nil, .nil => ⟨_, .nil⟩
  | _, _, _, .cons h ra, .cons r rr => by
    obtain ⟨as, q⟩ := reads_of I h r
    obtain ⟨bs, q2⟩ := readsAll_of I ra rr
    exact ⟨_, .cons q q2⟩
end
/-- what is said of data that is to be shown: n bounds its text -/
structure Fine (d : PyData) (n : Nat) : Prop where
  sh : d.showable = true
  len : d.shown.length ≤ n
  dep : d.depth ≤ n
theorem Fine.mono {d : PyData} {n m : Nat} (h : Fine d n) (e : n ≤ m) : Fine d m := ⟨h.sh, Nat.le_trans h.len e, Nat.le_trans h.dep e⟩
/-- repr(v), v a list or a tuple -/
theorem call_repr (hg : X.A.guards = some []) (hu : X.A.units + 110 < cLine) :
    CallR X (.builtin "repr") (fun xs H Q => ∃ (a : Addr) (d : PyData) (n : Nat), xs = [.ref a] ∧ Rep X.K H (.ref a) d ∧ Fine d n ∧ n ≤ 16777216 ∧ d.depth ≤ 100 ∧ Q (.str d.shown) H) := by
  intro pins s σ H xs us Q I r h
  obtain ⟨a, d, n, rfl, hr, hf, hn, hd, q⟩ := h
  cases r with
  | cons rx rr =>
    cases rr
    obtain rfl : _ = Value.ref a := rx
    obtain ⟨as, hR⟩ := reads_of I hr rfl
    have hsz : d.shown.length ≤ sizeLine := Nat.le_trans hf.len (by rw [sizeLine_eq]; exact hn)
    refine repr_of_reads' hR hf.sh (PyData.noDict_hsm hr.noDict) hg (by omega) (fun _ _ e => e) (fun h' u tk hk => ?_) hsz
    exact ⟨.str d.shown, H, I.kept (t' := tk) hk, ⟨u, rfl⟩, q⟩
end
/-! ### bounds of texts -/
theorem fine_non : Fine .none 5 := ⟨rfl, by decide +kernel, by decide⟩
theorem fine_bl (b : Bool) : Fine (.bool b) 5 := ⟨rfl, by cases b <;> decide +kernel, by simp [PyData.depth]⟩
theorem fine_int {i : Int} (h : i.natAbs < 10 ^ 10) : Fine (.int i) 11 := by
  refine ⟨?_, ?_, by simp [PyData.depth]⟩
  · simp only [PyData.showable, decide_eq_true_eq]
    have h1 : i.natAbs.log2 ≤ (10 ^ 10 : Nat).log2 := by
      by_cases hz : i.natAbs = 0
      · rw [hz]; decide
      · exact (Nat.le_log2 (by decide)).2 (Nat.le_trans (Nat.log2_self_le hz) (Nat.le_of_lt h))
    have h2 : (10 ^ 10 : Nat).log2 < 1920 := by decide +kernel
    omega
  · rw [PyData.shown_int, PySem.ofString_length]
    exact int_text_length_le10 (k := 10) (by decide) h
theorem fine_all {m : Nat} : ∀ {ds : List PyData}, (∀ d ∈ ds, Fine d m) → PyData.showableAll ds = true ∧ ((PyData.shownAll ds).map (·.length)).sum ≤ ds.length * m ∧ PyData.depthAll ds ≤ m
  | [], _ => ⟨by simp only [PyData.showableAll], by simp [PyData.shownAll], by simp [PyData.depthAll]⟩
  | d :: ds, h => by
    obtain ⟨a, b, c⟩ := fine_all (m := m) (ds := ds) fun x hx => h x (List.mem_cons_of_mem _ hx)
    have h0 := h d (List.mem_cons_self ..)
    refine ⟨by simp only [PyData.showableAll, h0.sh, a, Bool.and_self], ?_, ?_⟩
    · simp only [PyData.shownAll, List.map_cons, List.sum_cons, List.length_cons]
      have := h0.len
      rw [Nat.add_mul]
      omega
    · simp only [PyData.depthAll]
      exact Nat.max_le.2 ⟨h0.dep, c⟩
theorem fine_list {ds : List PyData} {m n : Nat} (h : ∀ d ∈ ds, Fine d m) (e : ds.length * m + ds.length * 2 + 4 + m ≤ n) : Fine (.list ds) n := by
  obtain ⟨a, b, c⟩ := fine_all h
  refine ⟨by simp only [PyData.showable]; exact a, ?_, by simp only [PyData.depth]; omega⟩
  rw [PyData.shown_list, Str.length_append, Str.length_append]
  have j := StrLaws.join_length_le (", " : Str) (PyData.shownAll ds)
  rw [PyData.shownAll_length] at j
  have l1 : ((", " : String) : Str).length = 2 := by decide +kernel
  have l2 : (("[" : String) : Str).length = 1 := by decide +kernel
  have l3 : (("]" : String) : Str).length = 1 := by decide +kernel
  rw [l1] at j
  rw [l2, l3]
  omega
theorem fine_tup {ds : List PyData} {m n : Nat} (h : ∀ d ∈ ds, Fine d m) (e : ds.length * m + ds.length * 2 + 4 + m ≤ n) : Fine (.tuple ds) n := by
  obtain ⟨a, b, c⟩ := fine_all h
  refine ⟨by simp only [PyData.showable]; exact a, ?_, by simp only [PyData.depth]; omega⟩
  rw [PyData.shown_tuple, Str.length_append, Str.length_append]
  have j := StrLaws.join_length_le (", " : Str) (PyData.shownAll ds)
  rw [PyData.shownAll_length] at j
  have l1 : ((", " : String) : Str).length = 2 := by decide +kernel
  have l2 : (("(" : String) : Str).length = 1 := by decide +kernel
  have l3 : (Str.ofString (if ds.length == 1 then ",)" else ")" : String)).length ≤ 2 := by split <;> decide +kernel
  rw [l1] at j
  rw [l2]
  omega
end BK
set_option Elab.async false
set_option linter.all false
set_option maxRecDepth 100000
set_option maxHeartbeats 4000000
/-! KitE: promises of defs that are called where no repr is under way, and their calls. -/
namespace BK
open PySem PySem.Spec PyProof.Rows L2
/-- as FnOk, wherever the guards of repr are known to be none; nothing is raised -/
structure FnG (P : Program) (w : World) (K : PySem.W.Frag) (mg : Str → Option Value) (base : Heap) (k : Nat) (f : Addr) (fd : FuncData) (ps : List Str) (sp : Sp) : Prop where
  len : ∀ vs H Q E, sp vs H Q E → vs.length = ps.length
  run : ∀ (A : Around) (outer : List Env) (s : Shared) (H : Hp) (args : Args) (us : List Value) (vs : List V) (Q : VK) (E : XK),
    A.guards = some [] → Room k A → Env0 P w K mg base A outer s H → BindsTo s fd args (ps.zip us) → Vals vs us → sp vs H Q E → codeAny (model P w) A (.call (.ref f) args) (CR CX0 outer P w H s Q E) s
theorem FnG.of {P : Program} {w : World} {K : PySem.W.Frag} {mg : Str → Option Value} {base : Heap} {k : Nat} {f : Addr} {fd : FuncData} {ps : List Str} {sp : Sp} (F : FnOk P w K mg base CX0 k f fd ps sp) : FnG P w K mg base k f fd ps sp :=
  ⟨F.len, fun A outer s H args us vs Q E _ => F.run A outer s H args us vs Q E⟩
theorem fun_okG {P : Program} {w : World} {K : PySem.W.Frag} {mg : Str → Option Value} {base : Heap} {x qual : Str} {st : Stmt} {f : Addr} {fd : FuncData} {N ps : List Str} {k : Nat} {sp : Sp}
    (F : Fun K x qual st f fd) (S : FnScope N ps (defScope st)) (len : ∀ vs H Q E, sp vs H Q E → vs.length = ps.length)
    (hbody : ∀ (cdv : Value) (A : Around) (outer : List Env) (s : Shared) (H : Hp) (vs : List V) (Q : VK) (E : XK), A.guards = some [] → Room k (A.deeper (envOfC qual (defScope st) s.heap.objs.size f cdv)) → sp vs H Q E →
      ∃ t, PSs (cxOf CX0 P w K mg base N qual (defScope st) f cdv A outer s H E).nox (defBody st) t ∧ t { nx := fun _ H' => Q .non H', rt := Q } (L2.start N vs) H) : FnG P w K mg base (k + 1) f fd ps sp := by
  obtain ⟨oc, od, kV, doc, pm, an, cdv, ct, osl, rfl, lk, hcd⟩ := F.ex
  constructor
  · exact len
  · intro A outer s H args us vs Q E hgd hr e0 hb r hsp
    apply LamX.run_ofS lk hcd S hr e0 hb r (len _ _ _ _ hsp)
    intro hr'
    obtain ⟨t, ht, hq⟩ := hbody cdv A outer s H vs Q E hgd hr' hsp
    exact ⟨t, ht.nox, hq⟩
section
variable {X : Cx} {k : Nat} {f : Addr} {fd : FuncData} {ps : List Str} {sp : Sp} {E : XK} {x : Str} {p pos : Pos} {e : Expr} {es : List Expr} {t : TA}
theorem run_fnG {pins : List (Addr × Obj)} {σ : L2.St} {H : Hp} {s : Shared} {Q : VK} {us : List Value} {vs : List V} (F : FnG X.prog X.w X.K X.mg X.base k f fd ps sp) (hgd : X.A.guards = some []) (hr : Room k X.A) (hb : Binds X.K fd ps [])
    (I : Inv X pins σ H s) (r : Vals vs us) (h : sp vs H Q E) : wpAny (model X.prog X.w) X.A (call (.ref f) us) (EP X pins σ Q) X.xe s := by
  have many : us.length = ps.length := r.length.symm.trans (F.len _ _ _ _ h)
  have bound : BindsTo s fd ⟨us, []⟩ (ps.zip us) := by
    have b := hb s us I.kIn ((congrArg List.length (List.append_nil us)).trans many)
    rwa [List.append_nil] at b
  apply wpAny_call
  apply codeAny_mono (F.run X.A X.stack s H ⟨us, []⟩ us vs Q E hgd hr I.env0 bound r h)
  intro res s' q
  match res, q with
  | .ok (.ret _), q => exact I.after q
  | .ok .next, q => exact (show False from q).elim
  | .ok .brk, q => exact (show False from q).elim
  | .ok .cont, q => exact (show False from q).elim
  | .error _, q => exact (show False from q).elim
def tCallG (sp : Sp) (t : TA) : TE := fun σ H Q => t σ H fun vs H1 => sp vs H1 Q E0
theorem pe_callG (F : FnG X.prog X.w X.K X.mg X.base k f fd ps sp) (hgd : X.A.guards = some []) (hr : Room k X.A) (hg : Gl X x) (hm : X.mg x = some (.ref f)) (hk : PySem.W.keepIn X.K (.ref f) = true) (hb : Binds X.K fd ps [])
    (ha : PA X (e :: es) t) (hdb : (x == ("__debug__" : Str)) = false := by decide) (he : starEach (e :: es) X.env = (false, eval e X.env) :: starEach es X.env := by rfl) (hpl : (backTo pos (starEach es X.env)).any (·.1) = false := by rfl) :
    PE X (.Call (.Name x p) (e :: es) [] pos) (tCallG sp t) := by
  constructor
  intro pins s σ H Q I h
  apply wpAny_Call_Name_kw
  apply ld_glob I hg hm _ hdb
  apply PySem.W.callWith_K (h₀ := X.base) I.ok.mod.kin hk _ he hpl
  apply thn (ha.run pos pins s σ H _ I h)
  intro us s1 came
  obtain ⟨vs, H1, I1, r, q⟩ := came
  exact ⟨I1.kIn, run_fnG F hgd hr hb I1 r q⟩
theorem pe_callG0 (F : FnG X.prog X.w X.K X.mg X.base k f fd ps sp) (hgd : X.A.guards = some []) (hr : Room k X.A) (hg : Gl X x) (hm : X.mg x = some (.ref f)) (hk : PySem.W.keepIn X.K (.ref f) = true) (hb : Binds X.K fd ps [])
    (hdb : (x == ("__debug__" : Str)) = false := by decide) : PE X (.Call (.Name x p) [] [] pos) (tCallG sp tNil) := by
  constructor
  intro pins s σ H Q I h
  apply wpAny_Call_Name_kw
  apply ld_glob I hg hm _ hdb
  exact PySem.W.callWith_K0 I.kIn hk (run_fnG (us := []) F hgd hr hb I .nil h)
end
end BK
set_option Elab.async false
set_option linter.all false
set_option maxRecDepth 100000
set_option maxHeartbeats 4000000
/-! KitB: several except clauses that all give the error the same name. -/
namespace BK
open PySem PySem.Spec PyProof.Rows L2
/-- the ends of a suite: the name at slot i is gone behind it -/
abbrev Gone (i : Nat) (D : Ends) : Ends :=
  ⟨fun σ H => D.nx (σ.set i none) H, D.rt, fun σ H => D.bk (σ.set i none) H, fun σ H => D.ct (σ.set i none) H⟩
abbrev Suite := Addr → Value → Option Addr → TS
/-- the clauses' wish, one after the other; len: how many slots there are -/
def wManyA (K : PySem.W.Frag) (len i : Nat) (Wout : WX) (D : Ends) : List (Value × Suite) → WX
  | [] => Wout
  | q :: r => fun cls d σ H => ∃ b, PySem.W.exmOne K cls q.1 = some b ∧
      (b = true → σ.length = len → ∀ a, H a = none → q.2 a cls d (Gone i D) (σ.set i (some (.ref a))) H) ∧
      (b = false → wManyA K len i Wout D r cls d σ H)
inductive HdsA (X : Cx) (n : Str) : List ExceptHandler → List (Value × Suite) → Prop
  | nil : HdsA X n [] []
  | cons {x : Str} {c : Value} {ts : Suite} {b₀ : Stmt} {suite : List Stmt} {np hp : Pos} {hds : List ExceptHandler} {l : List (Value × Suite)}
      (named : Names X x c)
      (does : ∀ (a : Addr) (oe : Obj) (cls : Value) (d : Option Addr) (pn : List (Addr × Obj)), Zc cls d oe → (∃ vs, oe.data = .fields vs) → PSs (X.suite a ((a, oe) :: pn)) (b₀ :: suite) (ts a cls d))
      (more : HdsA X n hds l) : HdsA X n (.ExceptHandler (some (.Name x np)) (some n) (b₀ :: suite) hp :: hds) ((c, ts) :: l)
/-- an error of the body, come down to the clauses: its object at a, the state s3; sI is the state without it, B the ground -/
structure Lies (X : Cx) (pins : List (Addr × Obj)) (σ : L2.St) (H : Hp) (a : Addr) (cls : Value) (d : Option Addr) (B : Heap) (sI s3 : Shared) : Prop where
  inv : Inv X pins σ H sI
  gr : ∀ b o, sI.heap.get? b = some o → b ∉ frs X.stack → B.get? b = some o
  up : sI.heap.UpToSlots s3.heap
  fly : HandSPX.FlyingZ B (X.env :: X.outer) a (Zc cls d) s3.heap
  free : H a = none
  os : s3.os = sI.os
  bare : AllBare s3.gens
section
variable {X : Cx} {pins : List (Addr × Obj)} {σ : L2.St} {H : Hp} {a : Addr} {cls : Value} {d : Option Addr} {B : Heap} {sI s3 : Shared}
theorem Lies.here (L : Lies X pins σ H a cls d B sI s3) : Inv X pins σ H s3 := L.inv.landed L.gr L.fly.1 L.up L.os L.bare
/-- further on, the heap but for slots as it was -/
theorem Lies.on (L : Lies X pins σ H a cls d B sI s3) {h : Heap} (u : s3.heap.UpToSlots h) (f : HandSPX.FlyingZ B (X.env :: X.outer) a (Zc cls d) h) : Lies X pins σ H a cls d B sI { s3 with heap := h } :=
  { inv := L.inv, gr := L.gr, up := L.up.trans u, fly := f, free := L.free, os := L.os, bare := L.bare }
/-- its object is no frame's -/
theorem Lies.apart (L : Lies X pins σ H a cls d B sI s3) (hf : X.env.frame = some X.env.locals) : a ≠ X.env.locals ∧ a ∉ X.fs := by
  obtain ⟨oe, vs, e1, _, e2⟩ := L.fly.there
  have no : a ∉ frs (X.env :: X.outer) := by
    intro hm
    obtain ⟨_, u, eu, nf⟩ := (show s3.heap.FunFrames B (X.env :: X.outer) from L.fly.2.2.1).mem hm
    have same : oe = u := Option.some.inj (e1.symm.trans eu)
    exact nf vs (same ▸ e2)
  constructor
  · intro z
    exact no (List.mem_filterMap.mpr ⟨X.env, List.mem_cons_self, hf.trans (by rw [z])⟩)
  · intro hm
    obtain ⟨env, henv, q⟩ := List.mem_filterMap.mp hm
    exact no (List.mem_filterMap.mpr ⟨env, List.mem_cons_of_mem _ henv, q⟩)
/-- it lies in a suite's context, its object known -/
theorem Lies.inSuite (L : Lies X pins σ H a cls d B sI s3) (hf : X.env.frame = some X.env.locals) :
    ∃ oe : Obj, Zc cls d oe ∧ (∃ vs, oe.data = .fields vs) ∧ s3.heap.get? a = some oe ∧ Inv (X.suite a ((a, oe) :: (X.pn ++ pins))) [] σ H s3 := by
  obtain ⟨oe, vs, e1, z, e2⟩ := L.fly.there
  obtain ⟨n1, n2⟩ := L.apart hf
  exact ⟨oe, z, ⟨vs, e2⟩, e1, L.here.suite e1 e2 L.free n1 n2⟩
variable {n : Str} {i : Nat} {Wout : WX} {D : Ends}
/-- no clause is left: it goes up -/
theorem clauses_out (hs : X.stack = X.env :: X.outer) (hf : X.env.frame = some X.env.locals) (tk : Takes X Wout) (L : Lies X pins σ H a cls d B sI s3) (w : Wout cls d σ H) :
    wpAny (model X.prog X.w) X.A (handleBy (.ref a) X.env []) (SP X pins D) X.xe s3 := by
  apply wpAny_handleBy_nil
  obtain ⟨_, _, _, oe, vs, T, oT, ts, e1, _, e2, e3, _⟩ := id L.fly
  unfold PySem.passOn
  apply wpAny_bind
  apply wpAny_field e1 e2 e3
  have ne : ¬ (Value.ref T == Value.none) = true := by simp
  rw [if_neg ne]
  have up : wpAny (model X.prog X.w) X.A (setFlight (.ref a) X.env.frame) (fun _ s4 => wpAny (model X.prog X.w) X.A (throw (.ref a) : Sem Flow) (SP X pins D) X.xe s4) X.xe s3 := by
    rw [hf]
    apply HandSPX.setFlight_upZ L.fly
    intro h4 held u4
    apply wpAny_throw
    apply tk
    refine ⟨a, B, sI, pins, σ, H, cls, d, rfl, L.inv, L.gr, L.up.trans u4, ?_, L.free, L.os, L.bare, w⟩
    rw [hs]
    exact .inr (.inr held)
  first
    | exact wpAny_bind up
    | exact wpAny_bind (wpAny_pure (wpAny_bind up))
/-- the suite of the clause that takes it, then the name goes -/
theorem clauses_in {b₀ : Stmt} {suite : List Stmt} {ts : Suite} {hp : Pos} (hf : X.env.frame = some X.env.locals) (hN : X.N.Nodup) (hi : X.N[i]? = some n) (hln : X.env.kindOf n = some .local)
    (does : ∀ (a : Addr) (oe : Obj) (cls : Value) (d : Option Addr) (pn : List (Addr × Obj)), Zc cls d oe → (∃ vs, oe.data = .fields vs) → PSs (X.suite a ((a, oe) :: pn)) (b₀ :: suite) (ts a cls d))
    (L : Lies X pins σ H a cls d B sI s3) (w : ts a cls d (Gone i D) (σ.set i (some (.ref a))) H) {E1 E2 : Value → Shared → Prop} :
    wpAny (model X.prog X.w) (X.A.mark (some (.ref a))) (storeName X.env n (.ref a)) (fun _ s4 => wpAny (model X.prog X.w) (X.A.mark (some (.ref a))) (execs (b₀ :: suite) X.env)
      (fun f s5 => wpAny (model X.prog X.w) X.A (do bindName X.env n .none; unbindBehindTheSuite X.env n hp) (fun _ s6 => SP X pins D f s6) X.xe s5) E2 s4) E1 s3 := by
  obtain ⟨oe, z, dt, _, S⟩ := L.inSuite hf
  apply store_ok (X := X.suite a ((a, oe) :: (X.pn ++ pins))) (v := .ref a) S hN hi (.inl hln) rfl (hf := .inr hln)
  intro s4 S4
  have run := (does a oe cls d (X.pn ++ pins) z dt).run [] s4 _ H (Gone i D) S4 w
  apply wpAny_mono run
  · intro f s5 q
    have fin : ∀ {σ5 : L2.St} {H5 : Hp} {Q : Shared → Prop}, Inv (X.suite a ((a, oe) :: (X.pn ++ pins))) [] σ5 H5 s5 → (∀ s6, Inv X pins (σ5.set i none) H5 s6 → Q s6) →
        wpAny (model X.prog X.w) X.A (do bindName X.env n .none; unbindBehindTheSuite X.env n hp) (fun _ s6 => Q s6) X.xe s5 := by
      intro σ5 H5 Q S5 k
      exact gone_ok (S5.unsuite L.inv.ok) hN hi hln k
    match f, q with
    | .next, ⟨_, _, S5, q5⟩ => exact fin S5 fun _ J => ⟨_, _, J, q5⟩
    | .brk, ⟨_, _, S5, q5⟩ => exact fin S5 fun _ J => ⟨_, _, J, q5⟩
    | .cont, ⟨_, _, S5, q5⟩ => exact fin S5 fun _ J => ⟨_, _, J, q5⟩
    | .ret _, ⟨_, _, _, S5, r5, q5⟩ => exact fin S5 fun _ J => ⟨_, _, _, J, r5, q5⟩
  · intro _ _ no
    exact no.elim
/-- all clauses -/
theorem clauses_all (hs : X.stack = X.env :: X.outer) (hf : X.env.frame = some X.env.locals) (hN : X.N.Nodup) (hi : X.N[i]? = some n) (hln : X.env.kindOf n = some .local) (tk : Takes X Wout) :
    ∀ {hds : List ExceptHandler} {l : List (Value × Suite)}, HdsA X n hds l → Lies X pins σ H a cls d B sI s3 → wManyA X.K X.N.length i Wout D l cls d σ H →
      wpAny (model X.prog X.w) X.A (handleBy (.ref a) X.env hds) (SP X pins D) X.xe s3
  | _, _, .nil, L, w => clauses_out hs hf tk L w
  | _, _, .cons (x := x) (c := c) named does more, L, w => by
    obtain ⟨b, eb, yes, no⟩ := w
    apply wpAny_handleBy_cons _ (by intro q; cases q)
    apply codeAny_handlers_test
    obtain ⟨oe, z, dt, e1, S⟩ := L.inSuite hf
    have class_ : PySem.W.Looks (model X.prog X.w) s3.heap (typeOf (.ref a)) cls := by
      intro A Q E s k q
      exact wpAny_typeOf_ref (k _ _ e1) (by rw [z.1]; exact q)
    have asks := PySem.W.exm_one (M := model X.prog X.w) L.here.kIn class_ eb
    obtain ⟨hg, hdb, hm⟩ := named
    have go : ∀ {Q : Value → Shared → Prop} {E : Value → Shared → Prop} {np : Pos}, Q c s3 → wpAny (model X.prog X.w) (X.A.mark (some (.ref a))) (eval (.Name x np) X.env) Q E s3 := by
      intro Q E np q
      cases hm with
      | inl hm => exact ld_glob (X := X.suite a ((a, oe) :: (X.pn ++ pins))) S hg hm q hdb
      | inr hm => exact ld_blt (X := X.suite a ((a, oe) :: (X.pn ++ pins))) S hg hm.1 hm.2.1 q hm.2.2 hdb
    apply go
    apply asks.here
    cases b with
    | false => exact clauses_all hs hf hN hi hln tk more L (no rfl)
    | true =>
      apply codeAny_handlers_suite_as
      apply HandSPX.lands_againZ L.fly
      intro h4 f4 u4
      exact clauses_in hf hN hi hln does (L.on u4 f4) (yes rfl L.inv.len a L.free)
end
/-- try: body, except x1 as n: .. except x2 as n: .. -/
theorem ps_try_manyA {X : Cx} {n : Str} {i : Nat} {body : List Stmt} {h₀ : ExceptHandler} {hds : List ExceptHandler} {l : List (Value × Suite)} {pos : Pos} {tb : WX → TS} {Wout : WX}
    (hs : X.stack = X.env :: X.outer) (hf : X.env.frame = some X.env.locals) (hN : X.N.Nodup) (hi : X.N[i]? = some n) (hln : X.env.kindOf n = some .local) (tk : Takes X Wout)
    (hb : ∀ (W : WX) (pn : List (Addr × Obj)) (xe : Value → Shared → Prop), Takes (X.tr pn xe) W → PassesOwn (model X.prog X.w) X.A X.env xe → PSs (X.tr pn xe) body (tb W))
    (hh : HdsA X n (h₀ :: hds) l) : PS X (.Try body (h₀ :: hds) [] [] pos) (fun D σ H => tb (wManyA X.K X.N.length i Wout D l) D σ H) := by
  constructor
  intro pins s σ H D I h
  have ok := I.ok
  apply wpAny_Try_except
  have caught : Takes (X.tr (X.pn ++ pins) (fun e s1 => wpAny (model X.prog X.w) X.A (noteFrame e X.env) (fun _ s2 => wpAny (model X.prog X.w) X.A (setFlight e none)
      (fun _ s3 => wpAny (model X.prog X.w) X.A (handleBy e X.env (h₀ :: hds)) (SP X pins D) X.xe s3) X.xe s2) X.xe s1)) (wManyA X.K X.N.length i Wout D l) := by
    intro u s1 x
    obtain ⟨a, B, sI, _, σ', H', cls, d, rfl, J, gr, up, sky, na, os, ag, w⟩ := x
    have frames : X.A.frames = some (X.env :: X.outer) := ok.frames.trans (by rw [hs])
    rw [show (X.tr (X.pn ++ pins) _).stack = X.env :: X.outer from hs] at sky
    apply Sky.land Zc.steady frames hf sky
    intro h3 f3 u3
    exact clauses_all hs hf hN hi hln tk hh ⟨J.ofTry ok, gr, up.trans u3, f3, na, os, ag⟩ w
  apply wpAny_mono ((hb _ _ _ caught PassesOwn.looking).run [] s σ H D (I.toTry _) h)
  · intro f s1 q
    match f, q with
    | .next, ⟨_, _, J, q⟩ => exact wpAny_execs_nil ⟨_, _, J.ofTry ok, q⟩
    | .brk, ⟨_, _, J, q⟩ => exact ⟨_, _, J.ofTry ok, q⟩
    | .cont, ⟨_, _, J, q⟩ => exact ⟨_, _, J.ofTry ok, q⟩
    | .ret _, ⟨_, _, _, J, r, q⟩ => exact ⟨_, _, _, J.ofTry ok, r, q⟩
  · intro _ _ q
    exact q
end BK
set_option Elab.async false
set_option linter.all false
set_option maxRecDepth 100000
set_option maxHeartbeats 4000000
/-! KitC: own errors: made, raised, asked. -/
namespace BK
open PySem PySem.Spec PyProof.Rows L2
/-- what an own class of errors says, so that isinstance asks its instances rightly -/
structure IsC (K : PySem.W.Frag) (D : Addr) : Prop where
  cl : (PySem.W.clsIn K D).isSome = true
  hg : PySem.W.findIn K (.ref D) "__getattribute__" = some (some (.builtin "BaseException.__getattribute__"))
  hk : PySem.W.findIn K (.ref D) "__getattr__" = some none
  hs : PySem.W.subIn K (.ref D) (.type "BaseException") = some true
  ha : PySem.W.findIn K (.ref D) "__class__" = some (some (.builtin "object.__class__"))
  hn : PySem.W.specialIn K (.builtin "object.__class__") "__get__" = some (some (.builtin "getset_descriptor.__get__"))
  ht : PySem.W.takesIn K (.builtin "object.__class__") = some true
  hm : PySem.W.mroIn K D (.type "object") = some true
/-- isinstance(e, c), e the exception that the suite holds, d its dict -/
def rIsD (K : PySem.W.Frag) (D a : Addr) (d : Option Addr) : List V → Hp → VK → Prop := fun xs H Q => ∃ (c : V) (cv : Value) (b : Bool), xs = [.ref a, c] ∧ (∀ u, RelV c u → u = cv) ∧ PySem.W.kitOne K (.ref D) cv = some b ∧ (∀ dd, d = some dd → ∃ fs, H dd = some (.xd fs)) ∧ Q (.bl b) H
theorem call_isD {X : Cx} {a D : Addr} {d : Option Addr} {oe : Obj} {pn : List (Addr × Obj)} (C : IsC X.K D) (hz : Zc (.ref D) d oe) (hf : ∃ vs, oe.data = .fields vs) : CallR (X.suite a ((a, oe) :: pn)) (.builtin "isinstance") (rIsD X.K D a d) := by
  intro pins s σ H xs us Q I r h
  obtain ⟨c, cv, b, rfl, hcv, e, hd, q⟩ := h
  cases r with
  | cons rx rr =>
    cases rr with
    | cons rt rr =>
      cases rr
      cases rx
      have ec := hcv _ rt
      subst ec
      obtain ⟨hget, _⟩ := I.pin (a, oe) (List.mem_append.mpr (.inl List.mem_cons_self))
      obtain ⟨vs, hv⟩ := hf
      obtain ⟨od, J⟩ : ∃ od, PySem.W.InstAt s.heap a oe D od := by
        obtain ⟨oc, oda, odt, osl⟩ := oe
        obtain ⟨h1, h2⟩ := hz
        dsimp only at h1 h2 hv
        subst h1 h2 hv
        cases oda with
        | none => exact ⟨none, hget, rfl, rfl, trivial⟩
        | some dd =>
          obtain ⟨fs, hx⟩ := hd dd rfl
          obtain ⟨mA, ⟨o, es, ep, ho, _⟩, _⟩ := (show ObjOk X.prog X.w H s.heap dd (.xd fs) from I.hok dd _ hx)
          exact ⟨some o, hget, rfl, rfl, ho⟩
      exact PySem.W.kia_one (PySem.W.kitx_exc C.cl C.hg C.hk C.hs C.ha C.hn C.ht C.hm) I.kIn J e (fun z => nomatch z) fun tk => ⟨.bl b, H, I.kept (t' := tk) fun _ _ z => z, rfl, q⟩
/-! ### an error with one field -/
/-- __init__(self, f): self.f = f -/
def spErr (C : Addr) (f : Str) : Sp := fun vs H Q _ => ∃ (a : Addr) (y : V), vs = [.ref a, y] ∧ H a = some (exo a C none) ∧ ∀ dx, H dx = none → dx ≠ a → Q .non (upd (upd H dx (exd dx [(f, y)])) a (exo a C (some dx)))
section
variable {P : Program} {w : World} {K : PySem.W.Frag} {mg : Str → Option Value} {base : Heap}
theorem ok_err {st : Stmt} {cls f : Str} {C fI : Addr} {fd : FuncData} {p1 p2 p3 p4 : Pos} (F : Fun K "__init__" (cls ++ ".__init__") st fI fd) (T : OexC K C) (no : PySem.W.findIn K (.ref C) f = some none)
    (hb : defBody st = [.Assign [.Attribute (.Name "self" p1) f p2] (.Name f p3) p4]) (sc : FnScope ["self", f] ["self", f] (defScope st))
    (hv0 : Vis (defScope st) "self") (hv1 : Vis (defScope st) f) (hd : (f == ("__debug__" : Str)) = false) (hcd : (f == ("__classdict__" : Str)) = false)
    (hsw : ∀ X : Cx, swapsWith (.Name f p3) (some (.Attribute (.Name "self" p1) f p2)) p4.line X.env = pure false) : FnOk P w K mg base CX0 1 fI fd ["self", f] (spErr C f) := by
  refine F.ok sc (fun vs H Q E h => ?_) (fun cdv A outer s H vs Q E hr h => ?_)
  · obtain ⟨a, y, rfl, _⟩ := h
    rfl
  · obtain ⟨a, y, rfl, ha, q⟩ := h
    rw [hb]
    refine ⟨_, pss_one (ps_ost (pe_var (i := 0) rfl hv0) (pe_var (i := 1) rfl hv1 hd hcd) (hsw _)), ?_⟩
    exact ⟨y, rfl, .ref a, rfl, a, C, rfl, T, no, .inl ⟨ha, fun dx h1 h2 => q dx h1 h2⟩⟩
end
theorem heap_err {H : Hp} {a C d : Addr} {fs : List (Str × V)} (ha : H a = none) (hda : d ≠ a) :
    upd (del (upd (upd (upd H a (exo a C none)) d (exd d fs)) a (exo a C (some d))) a) d (.xd fs) = upd H d (.xd fs) := by
  funext b
  by_cases hb : b = d
  · rw [hb, upd_same, upd_same]
  · rw [upd_ne hb, upd_ne hb]
    by_cases hba : b = a
    · rw [hba, del_same, ha]
    · rw [del_ne hba, upd_ne hba, upd_ne hb, upd_ne hba]
section
variable {X : Cx}
/-- C(e), C with such an __init__ -/
theorem pmk_err {x f : Str} {C fI : Addr} {k : Nat} {fd : FuncData} {e : Expr} {ta : TA} {p pos : Pos} (T : OexC X.K C) (iC : PySem.W.findIn X.K (.ref C) "__init__" = some (some (.ref fI))) (tI : PySem.W.typeIn X.K (.ref fI) = some (.type "function"))
    (F1 : FnOk X.prog X.w X.K X.mg X.base CX0 k fI fd ["self", f] (spErr C f)) (hr : Room (k + 1) X.A) (hb : Binds X.K fd ["self", f] []) (hg : Gl X x) (hm : X.mg x = some (.ref C)) (ha : PA X [e] ta)
    (hdb : (x == ("__debug__" : Str)) = false := by decide) (hst : starEach [e] X.env = (false, eval e X.env) :: starEach [] X.env := by rfl) :
    PMk X (.Call (.Name x p) [e] [] pos) (tMkO C (spErr C f) [] ta) :=
  pmk_oex (es := []) (dvs := []) (ds := []) (sp := spErr C f) T iC tI F1 hr hb .nil (fun _ _ _ _ _ _ _ (z : False) => z.elim) hg hm ha hdb hst (by rfl)
/-- .. the end of its reading -/
theorem mk_err {C : Addr} {f : Str} {y : V} {H1 : Hp} {Q : XK} (h : ∀ d, H1 d = none → Q (.ref C) (some d) (upd H1 d (.xd [(f, y)]))) :
    [y].length ≤ 1000 ∧ ∀ a, H1 a = none → spErr C f (.ref a :: ([y] ++ [])) (upd H1 a (exo a C none))
      (fun v H2 => v = .non ∧ ∃ (d : Addr) (fs : List (Str × V)), H2 a = some (exo a C (some d)) ∧ H2 d = some (exd d fs) ∧ H1 d = none ∧ Q (.ref C) (some d) (upd (del H2 a) d (.xd fs))) (fun _ _ _ => False) := by
  refine ⟨by show 1 ≤ 1000; decide, fun a ha => ⟨a, y, rfl, upd_same, fun dx h1 h2 => ⟨rfl, dx, [(f, y)], upd_same, ?_, ?_, ?_⟩⟩⟩
  · rw [upd_ne h2, upd_same]
  · rw [upd_ne h2] at h1
    exact h1
  · rw [upd_ne h2] at h1
    rw [heap_err ha h2]
    exact h dx h1
/-- C(), C without own __init__ -/
theorem pmk_own0 {C : Addr} {bmB : List Value} {B newId initId : String} {x : Str} {p pos : Pos} (F : ExcBaseFacts B newId initId bmB) (q : PySem.W.excIn X.K C bmB newId = true) (gC : X.mg x = some (.ref C)) (kC : PySem.W.keepIn X.K (.ref C) = true) (r : Raises X (.ref C)) (hg : Gl X x)
    (hdb : (x == ("__debug__" : Str)) = false := by decide) : PMk X (.Call (.Name x p) [] [] pos) (fun _ H Q => Q (.ref C) none H) := by
  intro pins s σ H Q I h
  refine wpAny_Call_Name_kw (ld_glob I hg gC ?_ hdb)
  refine PySem.W.callWith_K0 I.kIn kC ?_
  show wpAny _ _ (call (.ref C) []) _ _ _
  obtain ⟨bm, N, nm, qn, bs, hdct, sn, sub, ab, col, dd, k0, k1, k2, k3, k5, mN, hC, hN, hni, T⟩ := exc_obj I.kIn q
  refine wpAny_call_exc_subT F T hC hN hni (fun h' e hm => ?_) (Nat.zero_le _)
  exact mk_of I hm r h (I.hok.gone hm.new)
end
end BK
set_option Elab.async false
set_option linter.all false
set_option maxRecDepth 100000
set_option maxHeartbeats 4000000
/-! KitD: defs by name; types of plain data; sums of tuples. -/
namespace BK
open PySem PySem.Spec PyProof.Rows L2
/-- a def of the text under its name -/
structure At (K : PySem.W.Frag) (mg : Str → Option Value) (x : Str) (st : Stmt) (ps : List Str) : Prop where
  ex : ∃ (f : Addr) (fd : FuncData), Fun K x x st f fd ∧ mg x = some (.ref f) ∧ Binds K fd ps []
/-- a def that keeps its promise, under its name -/
structure Def (P : Program) (w : World) (K : PySem.W.Frag) (mg : Str → Option Value) (base : Heap) (CX : CXT) (k : Nat) (x : Str) (ps : List Str) (sp : Sp) : Prop where
  ex : ∃ (f : Addr) (fd : FuncData), FnOk P w K mg base CX k f fd ps sp ∧ mg x = some (.ref f) ∧ PySem.W.keepIn K (.ref f) = true ∧ Binds K fd ps [] ∧ ∃ (oc : Value) (od : Option Addr) (osl : Array (Option Value)), K.lookup f = some ⟨oc, od, .func fd, osl⟩
structure DefG (P : Program) (w : World) (K : PySem.W.Frag) (mg : Str → Option Value) (base : Heap) (k : Nat) (x : Str) (ps : List Str) (sp : Sp) : Prop where
  ex : ∃ (f : Addr) (fd : FuncData), FnG P w K mg base k f fd ps sp ∧ mg x = some (.ref f) ∧ PySem.W.keepIn K (.ref f) = true ∧ Binds K fd ps [] ∧ ∃ (oc : Value) (od : Option Addr) (osl : Array (Option Value)), K.lookup f = some ⟨oc, od, .func fd, osl⟩
section
variable {P : Program} {w : World} {K : PySem.W.Frag} {mg : Str → Option Value} {base : Heap}
theorem At.ok {x : Str} {st : Stmt} {N ps : List Str} {k : Nat} {sp : Sp} (a : At K mg x st ps) (S : FnScope N ps (defScope st)) (len : ∀ vs H Q E, sp vs H Q E → vs.length = ps.length)
    (hbody : ∀ (f : Addr) (cdv : Value) (A : Around) (outer : List Env) (s : Shared) (H : Hp) (vs : List V) (Q : VK) (E : XK), Room k (A.deeper (envOfC x (defScope st) s.heap.objs.size f cdv)) → sp vs H Q E →
      ∃ t, PSs (cxOf CX0 P w K mg base N x (defScope st) f cdv A outer s H E).nox (defBody st) t ∧ t { nx := fun _ H' => Q .non H', rt := Q } (L2.start N vs) H) : Def P w K mg base CX0 (k + 1) x ps sp := by
  obtain ⟨f, fd, F, m, b⟩ := a.ex
  obtain ⟨oc, od, kV, doc, pm, an, cdv, ct, osl, _, lk, _⟩ := F.ex
  exact ⟨f, fd, F.ok S len (hbody f), m, F.kp, b, oc, od, osl, lk⟩
theorem At.okX {x : Str} {st : Stmt} {N ps : List Str} {k : Nat} {sp : Sp} (a : At K mg x st ps) (S : FnScope N ps (defScope st)) (len : ∀ vs H Q E, sp vs H Q E → vs.length = ps.length)
    (hbody : ∀ (f : Addr) (cdv : Value) (A : Around) (outer : List Env) (s : Shared) (H : Hp) (vs : List V) (Q : VK) (E : XK), Room k (A.deeper (envOfC x (defScope st) s.heap.objs.size f cdv)) → sp vs H Q E →
      ∃ t, PSs (cxOf (L2.CX P w) P w K mg base N x (defScope st) f cdv A outer s H E) (defBody st) t ∧ t { nx := fun _ H' => Q .non H', rt := Q } (L2.start N vs) H) : Def P w K mg base (L2.CX P w) (k + 1) x ps sp := by
  obtain ⟨f, fd, F, m, b⟩ := a.ex
  obtain ⟨oc, od, kV, doc, pm, an, cdv, ct, osl, _, lk, _⟩ := F.ex
  exact ⟨f, fd, F.okX S len (hbody f), m, F.kp, b, oc, od, osl, lk⟩
theorem At.okG {x : Str} {st : Stmt} {N ps : List Str} {k : Nat} {sp : Sp} (a : At K mg x st ps) (S : FnScope N ps (defScope st)) (len : ∀ vs H Q E, sp vs H Q E → vs.length = ps.length)
    (hbody : ∀ (f : Addr) (cdv : Value) (A : Around) (outer : List Env) (s : Shared) (H : Hp) (vs : List V) (Q : VK) (E : XK), A.guards = some [] → Room k (A.deeper (envOfC x (defScope st) s.heap.objs.size f cdv)) → sp vs H Q E →
      ∃ t, PSs (cxOf CX0 P w K mg base N x (defScope st) f cdv A outer s H E).nox (defBody st) t ∧ t { nx := fun _ H' => Q .non H', rt := Q } (L2.start N vs) H) : DefG P w K mg base (k + 1) x ps sp := by
  obtain ⟨f, fd, F, m, b⟩ := a.ex
  obtain ⟨oc, od, kV, doc, pm, an, cdv, ct, osl, _, lk, _⟩ := F.ex
  exact ⟨f, fd, fun_okG F S len (hbody f), m, F.kp, b, oc, od, osl, lk⟩
theorem Def.toG {x : Str} {ps : List Str} {k : Nat} {sp : Sp} (D : Def P w K mg base CX0 k x ps sp) : DefG P w K mg base k x ps sp := by
  obtain ⟨f, fd, F, m, kp, b, lk⟩ := D.ex
  exact ⟨f, fd, .of F, m, kp, b, lk⟩
end
section
variable {X : Cx} {CX : CXT} {k : Nat} {ps : List Str} {sp : Sp} {E : XK} {x : Str} {p pos : Pos} {e : Expr} {es : List Expr} {t : TA}
def tCallD (sp : Sp) (E : XK) (t : TA) : TE := fun σ H Q => t σ H fun vs H1 => sp (vs ++ []) H1 Q E
theorem pe_def (D : Def X.prog X.w X.K X.mg X.base CX k x ps sp) (hr : Room k X.A) (hg : Gl X x) (hx : Passes CX X E) (ha : PA X (e :: es) t)
    (hdb : (x == ("__debug__" : Str)) = false := by decide) (he : starEach (e :: es) X.env = (false, eval e X.env) :: starEach es X.env := by rfl) (hpl : (backTo pos (starEach es X.env)).any (·.1) = false := by rfl) :
    PE X (.Call (.Name x p) (e :: es) [] pos) (tCallD sp E t) := by
  obtain ⟨f, fd, F, m, kp, b, _⟩ := D.ex
  exact pe_call F hr hg m kp b .nil hx ha hdb he hpl
theorem pe_defG (D : DefG X.prog X.w X.K X.mg X.base k x ps sp) (hgd : X.A.guards = some []) (hr : Room k X.A) (hg : Gl X x) (ha : PA X (e :: es) t)
    (hdb : (x == ("__debug__" : Str)) = false := by decide) (he : starEach (e :: es) X.env = (false, eval e X.env) :: starEach es X.env := by rfl) (hpl : (backTo pos (starEach es X.env)).any (·.1) = false := by rfl) :
    PE X (.Call (.Name x p) (e :: es) [] pos) (tCallG sp t) := by
  obtain ⟨f, fd, F, m, kp, b, _⟩ := D.ex
  exact pe_callG F hgd hr hg m kp b ha hdb he hpl
theorem pe_defG0 (D : DefG X.prog X.w X.K X.mg X.base k x ps sp) (hgd : X.A.guards = some []) (hr : Room k X.A) (hg : Gl X x)
    (hdb : (x == ("__debug__" : Str)) = false := by decide) : PE X (.Call (.Name x p) [] [] pos) (tCallG sp tNil) := by
  obtain ⟨f, fd, F, m, kp, b, _⟩ := D.ex
  exact pe_callG0 F hgd hr hg m kp b hdb
end
/-! ### types -/
def tyOf : PyData → String
  | .none => "NoneType"
  | .bool _ => "bool"
  | .int _ => "int"
  | .str _ => "str"
  | .list _ => "list"
  | .tuple _ => "tuple"
  | .dict _ => "dict"
theorem tyx_of {K : PySem.W.Frag} {H : Hp} {v : V} {d : PyData} (r : Rep K H v d) : TyX K H v (.type (tyOf d)) := by
  cases r with
  | non => exact .base .non
  | bl b => exact .base (.bl b)
  | int i => exact .base (.int i)
  | str x => exact .base (.str x)
  | lst h ra =>
    rcases h with (h | ⟨o, h⟩) | ⟨o, its, n, h, c, _⟩
    · exact .base (.lst h)
    · exact .base (.frz h)
    · exact .kList h c
  | tup h ra =>
    rcases h with (h | ⟨o, h⟩) | ⟨o, its, n, h, c, _⟩
    · exact .base (.tup h)
    · exact .fTuple h
    · exact .kTuple h c
/-- of plain data -/
def isI : PyData → Bool
  | .bool _ => true
  | .int _ => true
  | _ => false
theorem kit_int : ∀ d : PyData, kitB (tyOf d) "int" = some (isI d)
  | .none => (by decide +kernel : kitB "NoneType" "int" = some false)
  | .bool _ => (by decide +kernel : kitB "bool" "int" = some true)
  | .int _ => (by decide +kernel : kitB "int" "int" = some true)
  | .str _ => (by decide +kernel : kitB "str" "int" = some false)
  | .list _ => (by decide +kernel : kitB "list" "int" = some false)
  | .tuple _ => (by decide +kernel : kitB "tuple" "int" = some false)
  | .dict _ => (by decide +kernel : kitB "dict" "int" = some false)
def isB : PyData → Bool
  | .bool _ => true
  | _ => false
theorem kit_bool : ∀ d : PyData, kitB (tyOf d) "bool" = some (isB d)
  | .none => (by decide +kernel : kitB "NoneType" "bool" = some false)
  | .bool _ => (by decide +kernel : kitB "bool" "bool" = some true)
  | .int _ => (by decide +kernel : kitB "int" "bool" = some false)
  | .str _ => (by decide +kernel : kitB "str" "bool" = some false)
  | .list _ => (by decide +kernel : kitB "list" "bool" = some false)
  | .tuple _ => (by decide +kernel : kitB "tuple" "bool" = some false)
  | .dict _ => (by decide +kernel : kitB "dict" "bool" = some false)
def isT : PyData → Bool
  | .tuple _ => true
  | _ => false
theorem kit_tuple : ∀ d : PyData, kitB (tyOf d) "tuple" = some (isT d)
  | .none => (by decide +kernel : kitB "NoneType" "tuple" = some false)
  | .bool _ => (by decide +kernel : kitB "bool" "tuple" = some false)
  | .int _ => (by decide +kernel : kitB "int" "tuple" = some false)
  | .str _ => (by decide +kernel : kitB "str" "tuple" = some false)
  | .list _ => (by decide +kernel : kitB "list" "tuple" = some false)
  | .tuple _ => (by decide +kernel : kitB "tuple" "tuple" = some true)
  | .dict _ => (by decide +kernel : kitB "dict" "tuple" = some false)
theorem isi_int {K : PySem.W.Frag} {H : Hp} {v : V} {d : PyData} {Q : VK} (r : Rep K H v d) (q : Q (.bl (isI d)) H) : rIsi K [v, .ty "int"] H Q := ⟨v, .ty "int", _, _, _, rfl, .ty "int", tyx_of r, kit_ty (kit_int d), q⟩
theorem isi_bool {K : PySem.W.Frag} {H : Hp} {v : V} {d : PyData} {Q : VK} (r : Rep K H v d) (q : Q (.bl (isB d)) H) : rIsi K [v, .ty "bool"] H Q := ⟨v, .ty "bool", _, _, _, rfl, .ty "bool", tyx_of r, kit_ty (kit_bool d), q⟩
theorem isi_tuple {K : PySem.W.Frag} {H : Hp} {v : V} {d : PyData} {Q : VK} (r : Rep K H v d) (q : Q (.bl (isT d)) H) : rIsi K [v, .ty "tuple"] H Q := ⟨v, .ty "tuple", _, _, _, rfl, .ty "tuple", tyx_of r, kit_ty (kit_tuple d), q⟩
/-! ### sums -/
theorem ints_of {ns : List Int} : ∀ {us : List Value}, Vals (ns.map V.int) us → IntsAre us ns := by
  induction ns with
  | nil =>
    intro us r
    cases r
    exact .nil
  | cons n ns ih =>
    intro us r
    cases r with
    | cons a b =>
      obtain ⟨t, rfl⟩ := a
      exact .cons _ _ (ih b)
theorem cr_sumT {X : Cx} (hc : X.calm = true) : CallR X (.builtin "sum") (fun vs H Q => ∃ (a : Addr) (ns : List Int), vs = [V.ref a] ∧ SqT X.K H a (ns.map V.int) ∧ Q (.int ns.sum) H) := by
  intro pins s σ H xs us Q I r h
  obtain ⟨a, ns, rfl, hs, q⟩ := h
  cases r with
  | cons rx rr =>
    cases rr
    obtain rfl : _ = Value.ref a := rx
    obtain ⟨its, rv, ht, hz⟩ := I.tuple hs
    have hi := ints_of rv
    obtain ⟨xs, hx⟩ := hi.allInts.items
    have hn : numsOf its.toArray.toList = ns := by rw [show its.toArray.toList = its from rfl, hi.numsOf]
    have hl : s.heap.IsTuple a its.toArray := ht
    rw [hx] at hl hn
    rw [nums_intItems] at hn
    refine PySem.W.ktm_sumG (I.ok.hd hc) hl fun h' tk t' hk => ?_
    rw [preSum_eq, List.take_of_length_le (by simp), hn]
    exact ⟨.int ns.sum, H, I.kept (t' := tk) hk, ⟨_, rfl⟩, q⟩
theorem pe_ty {X : Cx} {x : Str} {n : String} {pos : Pos} (hg : Gl X x) (hm : X.mg x = none) (hv : bootBuiltins x = some (.type n)) (hn : x ≠ "__name__" := by decide) (hdb : (x == ("__debug__" : Str)) = false := by decide) : PE X (.Name x pos) (tC (.ty n)) :=
  pe_bltn (v := .ty n) hg hm hv rfl hn hdb
end BK
set_option Elab.async false
set_option linter.all false
set_option maxRecDepth 100000
set_option maxHeartbeats 4000000
/-! KitF: heaps that grow beside the code tables; errors raised; the end of a law with tables. -/
namespace BK
open PySem PySem.Spec PyProof.Rows L2 LamX
/-- the tables of the defs that make lambdas, and of one that makes a generator -/
structure Tb (T : List (Addr × Str)) (PG : Addr) (H : Hp) : Prop where
  lam : Tabs T H
  gen : GxR.TabG H PG
theorem rd_ext {H H' : Hp} {a : Addr} {u : HO} (e : ExtN H H') (hu : ∀ ps, u ≠ .tbl ps) (h : Rd H a u) : Rd H' a u := by
  rcases h with h | ⟨o, h⟩
  · exact Or.inl (e a _ h hu)
  · exact Or.inr ⟨o, e a _ h (fun ps z => by cases z)⟩
theorem sql_ext {K : PySem.W.Frag} {H H' : Hp} {a : Addr} {xs : List V} (e : ExtN H H') (h : SqL K H a xs) : SqL K H' a xs := by
  rcases h with h | h
  · exact Or.inl (rd_ext e (fun ps z => by cases z) h)
  · exact Or.inr h
theorem sqt_ext {K : PySem.W.Frag} {H H' : Hp} {a : Addr} {xs : List V} (e : ExtN H H') (h : SqT K H a xs) : SqT K H' a xs := by
  rcases h with h | h
  · exact Or.inl (rd_ext e (fun ps z => by cases z) h)
  · exact Or.inr h
mutual
theorem Rep.ext {K : PySem.W.Frag} {H H' : Hp} (e : ExtN H H') : ∀ {v : V} {d : PyData}, Rep K H v d → Rep K H' v d
  | _, _, .non => .non
  | _, _, .bl b => .bl b
  | _, _, .int i => .int i
  | _, _, .str x => .str x
  | _, _, .lst h r => .lst (sql_ext e h) (RepAll.ext e r)
  | _, _, .tup h r => .tup (sqt_ext e h) (RepAll.ext e r)
theorem RepAll.ext {K : PySem.W.Frag} {H H' : Hp} (e : ExtN H H') : ∀ {vs : List V} {ds : List PyData}, RepAll K H vs ds → RepAll K H' vs ds
  | _, _, .nil => .nil
  | _, _, .cons h r => .cons (Rep.ext e h) (RepAll.ext e r)
end
theorem ext_new {H : Hp} {p : Addr} {o : HO} (h : H p = none) : ExtN H (upd H p o) := fun b u e _ => by
  rw [upd_ne (ne_of_none e h)]
  exact e
theorem tb_new {T : List (Addr × Str)} {PG : Addr} {H : Hp} {p : Addr} {o : HO} (h : H p = none) (t : Tb T PG H) : Tb T PG (upd H p o) := by
  have k : ∀ b u, H b = some u → upd H p o b = some u := fun b u e => by
    rw [upd_ne (ne_of_none e h)]
    exact e
  obtain ⟨ps, e1, e2⟩ := t.gen
  exact ⟨t.lam.ext k, ps, k _ _ e1, e2⟩
theorem ext_mut {H0 H : Hp} {p : Addr} {o : HO} (e : ExtN H0 H) (h : H0 p = none) : ExtN H0 (upd H p o) := fun b u x n => by
  rw [upd_ne (ne_of_none x h)]
  exact e b u x n
/-- an object that is no table changes -/
theorem tb_mut {T : List (Addr × Str)} {PG : Addr} {H : Hp} {p : Addr} {o u : HO} (h : H p = some u) (hu : ∀ ps, u ≠ .tbl ps) (hc : ∀ q, u ≠ CodeO p q) (t : Tb T PG H) : Tb T PG (upd H p o) := by
  have k : ∀ b ps, H b = some (.tbl ps) → upd H p o b = some (.tbl ps) := fun b ps e => by
    rw [upd_ne (fun z => by rw [z, h] at e; exact hu ps (Option.some.inj e))]
    exact e
  have k2 : ∀ c q, H c = some (CodeO c q) → upd H p o c = some (CodeO c q) := fun c q e => by
    rw [upd_ne (fun z => by
      subst z
      rw [h] at e
      exact hc q (Option.some.inj e))]
    exact e
  obtain ⟨ps, e1, e2⟩ := t.gen
  refine ⟨fun x hx => ?_, ps, k _ _ e1, e2⟩
  obtain ⟨ps', h1, h2, h3⟩ := t.lam x hx
  refine ⟨ps', k _ _ h1, h2, fun pos cv hcv => ?_⟩
  obtain ⟨c, a1, a2⟩ := h3 pos cv hcv
  exact ⟨c, a1, k2 _ _ a2⟩
/-! ### errors with a value -/
structure ErrV (P : Program) (w : World) (K : PySem.W.Frag) (mg : Str → Option Value) (base : Heap) (x f : Str) (C : Addr) : Prop where
  ex : ∃ (fI : Addr) (fd : FuncData), OexC K C ∧ PySem.W.findIn K (.ref C) "__init__" = some (some (.ref fI)) ∧ PySem.W.typeIn K (.ref fI) = some (.type "function") ∧
    FnOk P w K mg base L2.CX0 1 fI fd ["self", f] (spErr C f) ∧ Binds K fd ["self", f] [] ∧ mg x = some (.ref C)
section
variable {X : Cx} {x f : Str} {C : Addr} {e : Expr} {ta : TA} {p pos pos' : Pos}
theorem ps_raiseV {W : WX} (T : ErrV X.prog X.w X.K X.mg X.base x f C) (hc : X.calm = true) (tk : Takes X W) (hr : Room 2 X.A) (hg : Gl X x) (ha : PA X [e] ta)
    (hdb : (x == ("__debug__" : Str)) = false := by decide) (hst : starEach [e] X.env = (false, eval e X.env) :: starEach [] X.env := by rfl) :
    PS X (.Raise (some (.Call (.Name x p) [e] [] pos)) none pos') (fun _ σ H => tMkO C (spErr C f) [] ta σ H fun cls d H' => W cls d σ H') := by
  obtain ⟨fI, fd, h1, h2, h3, h4, h5, h6⟩ := T.ex
  exact ps_raise hc tk (pmk_err h1 h2 h3 h4 hr h5 hg h6 ha hdb hst)
end
end BK
set_option Elab.async false
set_option linter.all false
set_option maxRecDepth 100000
set_option maxHeartbeats 4000000
/-! KitX: generator expressions whose element runs in the layer: its frame, its turns, who draws from it. -/
namespace BK
open PySem PySem.Spec PyProof.Rows L2 LamX
/-- nothing but the table at P, and new things -/
def Grow (P : Addr) (q : Str) (H H' : Hp) : Prop := TabS H' P q ∧ ∀ b o, b ≠ P → H b = some o → H' b = some o
theorem Grow.ext {P : Addr} {q : Str} {H H' : Hp} (g : Grow P q H H') {ps : Array Value} (hP : H P = some (.tbl ps)) : ExtN H H' := fun b o e n => g.2 b o (fun z => n ps (Option.some.inj (e.symm.trans (by rw [z]; exact hP)))) e
section
variable {X : Cx} {pins : List (Addr × Obj)} {σ : L2.St} {H : Hp} {s : Shared}
/-- the generator's code object is known or is made -/
theorem code_grow {E : Value → Shared → Prop} {t : Shared} {c P : Addr} {pos : Pos} {q : Str} {scope : Scope} {Q : Value → Shared → Prop} (I : Inv X pins σ H t) (hc : X.env.code = .ref c) (TB : GxR.TabB X.base X.mg c P) (tS : TabS H P q)
    (h : ∀ (code : Value) (h3 : Heap) (tk : Nat) (H3 : Hp), Inv X pins σ H3 { t with heap := h3, toks := tk } → Grow P q H H3 → Heap.ExtBut P t.heap h3 → t.heap.objs.size ≤ h3.objs.size → (∀ b, b < t.heap.objs.size → H b = none → H3 b = none) → Q code { t with heap := h3, toks := tk }) :
    wpAny (model X.prog X.w) X.A (genexprCode X.env pos q scope) Q E t := by
  obtain ⟨ps, hP, ok, named⟩ := _root_.id tS
  have atP : t.heap.get? P = some { cls := .none, data := .fields ps } := I.hok P _ hP
  have cd : PySem.W.CodeHd t.heap c P := TB.code.keeps I.bk
  by_cases hf : ∃ cv, codeAmong pos ps.toList = some cv
  · obtain ⟨cv, hf⟩ := hf
    apply wpAny_genexprCode_hit hc (cd.code atP ok) hf
    exact h cv t.heap t.toks H I ⟨tS, fun _ _ _ e => e⟩ (Heap.ExtBut.refl _ _) (Nat.le_refl _) fun _ _ e => e
  · have nf : codeAmong pos ps.toList = none := by
      cases e : codeAmong pos ps.toList with
      | none => rfl
      | some cv => exact absurd ⟨cv, e⟩ hf
    apply wpAny_genexprCodeX hc (cd.code atP ok) (cd.tab atP) nf
    intro c' h' tk hx ge lt isC rec tab _
    obtain ⟨_, _, _, _, _, _, _, _, _, _, _, _, _, _, _, _, _, _, _, tr, _⟩ := isC
    have cO : ∃ (oc : Obj) (vs : Array Value) (t : Tok), h'.get? c' = some oc ∧ oc.data = .fields vs ∧ vs[1]? = some (.str q t) := by
      obtain ⟨c2, oc, vs, t, e, r⟩ := rec
      cases e
      exact ⟨oc, vs, t, r⟩
    have nC : H c' = none := I.hok.fresh ge
    have nP : P ≠ c' := ne_of_none hP nC
    refine h _ h' tk _ (LamX.inv_table I hP (fun b u n e => hx b u n e) tab.2 ge cO) ⟨⟨ps ++ #[rawInt pos.line, rawInt pos.col, .ref c'], ?_, tr, ?_⟩, ?_⟩ hx (Nat.le_trans ge (Nat.le_of_lt lt)) ?_
    · rw [upd_ne nP, upd_same]
    · intro pos' cv hcv
      rw [Array.toList_append] at hcv
      rcases LamX.among_app ps.toList ok hcv with e | e
      · obtain ⟨c3, e1, e2⟩ := named pos' cv e
        exact ⟨c3, e1, by rw [upd_ne (ne_of_none e2 nC), upd_ne (fun z => by rw [z, hP] at e2; cases e2)]; exact e2⟩
      · exact ⟨c', e, upd_same⟩
    · intro b u n e
      rw [upd_ne (ne_of_none e nC), upd_ne n]
      exact e
    · intro b lb nb
      rw [upd_ne (fun z => Nat.lt_irrefl _ (Nat.lt_of_lt_of_le lb (by rw [z]; exact ge))), upd_ne (fun z => by rw [z, hP] at nb; cases nb)]
      exact nb
end
/-! ### the frame of a generator expression -/
/-- its scope's names -/
structure GenN (N : List Str) (sc scope : Scope) (own : List (Str × Nat)) : Prop where
  blk : BlkOk N sc scope own
  co : scope.isCoroutine = false
  cell : ∀ y ∈ scope.names, y.2 ≠ .cell
  dot : scope.names.lookup (".0" : Str) = some NameKind.local
def genNB (N : List Str) (sc scope : Scope) (own : List (Str × Nat)) : Bool :=
  blkC N sc scope own && !scope.isCoroutine && (scope.names.all fun y => match y.2 with | .cell => false | _ => true) && (match scope.names.lookup (".0" : Str) with | some .local => true | _ => false)
theorem genN_by {N : List Str} {sc scope : Scope} {own : List (Str × Nat)} (h : genNB N sc scope own = true) : GenN N sc scope own := by
  unfold genNB at h
  simp only [Bool.and_eq_true, Bool.not_eq_true', List.all_eq_true] at h
  obtain ⟨⟨⟨h1, h2⟩, h3⟩, h4⟩ := h
  refine ⟨blkOk_by h1, h2, fun y hy e => ?_, ?_⟩
  · have q := h3 y hy
    rw [e] at q
    cases q
  · split at h4
    · assumption
    · cases h4
abbrev gEnv (X : Cx) (scope : Scope) (C : Addr) (code : Value) : Env := genEnv scope (cloFrom X.env.cells scope.names []) C code builtinsNs X.env
/-- the context of a generator expression's frame: made at s, H; B: the around of the one who draws -/
abbrev gCx (X : Cx) (B : Around) (s : Shared) (H : Hp) (scope : Scope) (C : Addr) (code : Value) (fp : List Addr) (pn : List (Addr × Obj)) : Cx :=
  { X with A := B.deeper (gEnv X scope C code), s_0 := s, H_0 := H, env := gEnv X scope C code, outer := X.stack, stack := gEnv X scope C code :: X.stack, ex := fp, fn := fun _ => false, calm := true, pn := pn, xe := fun _ _ => False }
section
variable {X : Cx} {pins : List (Addr × Obj)} {σ : L2.St} {H : Hp} {s : Shared}
theorem g_start {B : Around} {scope : Scope} {own : List (Str × Nat)} {fp : List Addr} {a : Addr} {go : Obj} {it code : Value} {h' : Heap} {tk : Nat} {gs : Array GenState} (I : Inv X pins σ H s) (ok : GenN X.N X.env.scope scope own) (hN : X.N.Nodup) (hh : B.handled = none) (hB : B.frames = some X.stack)
    (hfp : ∀ b ∈ fp, FpOk X pins H b ∧ b < s.heap.objs.size) (hns : h'.Ns s.heap.objs.size fun y => if y = ".0" then some it else none) (kp : ∀ b o, s.heap.get? b = some o → h'.get? b = some o) (hgs : AllBare gs)
    (ha : h'.get? a = some go) (ha1 : s.heap.objs.size < a) (hgo : ∀ v, go.data ≠ .cell v) :
    Inv (gCx X B s H scope s.heap.objs.size code fp [(a, go)]) [] (wipe σ (own.map (·.2))) H { s with heap := h', toks := tk, gens := gs } := by
  have hfree : ∀ y ∈ scope.names, y.2 = .free → ∃ c, X.env.cells.lookup y.1 = some c := fun y hy e => by
    rcases ok.blk.free y hy e with k | k
    · exact I.ok.has _ (.inl k)
    · exact I.ok.has _ (.inr k)
  have cm : ∀ {y c}, (cloFrom X.env.cells scope.names []).lookup y = some c → X.env.cells.lookup y = some c := fun {y c} e => by
    rcases cloFrom_mem (PySem.mem_of_lookup e) with hm | ⟨h1, h2⟩
    · cases hm
    · obtain ⟨c1, hc⟩ := hfree _ h1 rfl
      have hc : X.env.cells.lookup y = some c1 := hc
      have e2 : c = c1 := by
        rw [h2, hc] <;> rfl
      rw [e2]
      exact hc
  have look : ∀ {y}, scope.names.lookup y = some .free → ∃ c, (cloFrom X.env.cells scope.names []).lookup y = some c := fun {y} hl => by
    have hy : (y, NameKind.free) ∈ scope.names := PySem.mem_of_lookup hl
    exact mem_lookup (cloFrom_has (cells := X.env.cells) (acc := []) hy)
  have clt : ∀ {y c}, X.env.cells.lookup y = some c → c < s.heap.objs.size := fun {y c} e => by
    obtain ⟨v, z⟩ := I.cell y c e
    exact z.lt
  have okG : (gCx X B s H scope s.heap.objs.size code fp [(a, go)]).Ok := by
    refine ⟨I.ok.mod, ok.blk.kind, I.ok.glob, rfl, Nat.le_refl _, fun y z c e1 e2 => I.ok.inj y z c (cm e1) (cm e2), fun y hy => ?_, fun y c z _ => ?_, fun _ => hh, Around.frames_deeper hB, .inr ⟨rfl, rfl⟩, fun b hb => ⟨?_, fun y c e z => ?_⟩, I.bs, Nat.le_trans I.ok.bsz I.sz, fun b o e hb => ?_, fun b hb z => ?_, I.stack, I.stkFree⟩
    · have hy : scope.names.lookup y = some .cell ∨ scope.names.lookup y = some .free := hy
      rcases hy with hy | hy
      · exact absurd rfl (ok.cell _ (PySem.mem_of_lookup hy))
      · exact look hy
    · have z : false = true := z
      cases z
    · exact Nat.ne_of_lt (hfp b hb).2
    · exact (hfp b hb).1.2.2.2.2.1 y c (cm e) z
    · rcases (hfp b hb).1.2.2.2.1 with z | z
      · exact I.ok.noex b o e z
      · exact absurd (Nat.lt_of_lt_of_le (Heap.lt_size e) (Nat.le_trans I.ok.bsz z)) (Nat.lt_irrefl _)
    · rcases List.mem_cons.mp (I.stkSub b z) with z | z
      · exact (hfp b hb).1.2.1 z
      · exact (hfp b hb).1.2.2.1 z
  refine ⟨okG, rfl, hgs, Un.kept kp, ⟨_, hns, fun i y v e1 e2 e3 => ?_⟩, fun y c e => ?_, I.hok.fresh (Nat.le_refl _), fun y c e => ?_, fun p hp => ?_, I.hok.kept kp, by rw [wipe_length]; exact I.len⟩
  · obtain ⟨e2, hne⟩ := wipe_some e2
    have e3 : Vis scope y := e3
    have no : ¬ (scope.names.lookup y = some .local ∨ scope.names.lookup y = some .cell) := fun hh => by
      have : y ∈ own.map (·.1) ∨ y ∉ X.N := by
        rcases hh with z | z
        · exact ok.blk.own _ (PySem.mem_of_lookup z) (.inl rfl)
        · exact ok.blk.own _ (PySem.mem_of_lookup z) (.inr rfl)
      rcases this with e' | e'
      · obtain ⟨p, hp, hpy⟩ := List.mem_map.mp e'
        have e3 := ok.blk.ix p hp
        have : p.1 = y := hpy
        rw [this] at e3
        exact hne (List.mem_map.mpr ⟨p, hp, nodup_ix hN e3 e1⟩)
      · exact e' (List.mem_of_getElem? e1)
    have k : scope.names.lookup y = some .free := by
      rcases e3 with k | k | k
      · exact absurd (.inl k) no
      · exact absurd (.inr k) no
      · exact k
    obtain ⟨m, hn, hl⟩ := I.loc
    have hvis : Vis X.env.scope y := (ok.blk.free _ (PySem.mem_of_lookup k) rfl).elim (fun k => .inr (.inl k)) (fun k => .inr (.inr k))
    obtain ⟨w', r, q⟩ := hl i y v e1 e2 hvis
    obtain ⟨c2, h2⟩ := look k
    refine ⟨w', r, .inr ⟨.inr k, c2, h2, ?_⟩⟩
    have c1 := cm h2
    rcases q with ⟨k', _⟩ | ⟨_, c3, e', z⟩
    · have k' : X.env.scope.names.lookup y = some .local := k'
      rcases ok.blk.free _ (PySem.mem_of_lookup k) rfl with k2 | k2 <;> rw [show X.env.scope.names.lookup y = _ from k2] at k' <;> cases k'
    · rw [c1] at e'
      cases e'
      exact z.keeps kp
  · obtain ⟨w', z⟩ := I.cell y c (cm e)
    exact ⟨w', z.keeps kp⟩
  · exact I.freeC y c (cm e)
  · have hp : p ∈ [(a, go)] ++ ([] : List (Addr × Obj)) := hp
    rw [List.append_nil, List.mem_singleton] at hp
    subst hp
    refine ⟨ha, I.hok.fresh (Nat.le_of_lt ha1), Nat.ne_of_gt ha1, fun z => ?_, hgo⟩
    have z : a ∈ frs X.stack := z
    rcases List.mem_cons.mp (I.stkSub a z) with z | z
    · have := I.lt
      rw [← z] at this
      exact Nat.lt_irrefl _ (Nat.lt_trans this ha1)
    · exact I.nofs (Nat.le_of_lt ha1) z
end
/-- while it sleeps: nothing that stood is lost, but what is its consumer's own -/
structure Kept (ss : List Addr) (s s' : Shared) : Prop where
  os : s'.os = s.os
  bare : AllBare s'.gens
  keep : ∀ b o, b ∉ ss → s.heap.get? b = some o → s'.heap.get? b = some o
  there : ∀ b ∈ ss, ∃ o, s'.heap.get? b = some o ∧ ∀ v, o.data ≠ .cell v
/-- the consumer's own things: younger than the frame's making, none of its -/
structure Mine (Z : Cx) (fp ss : List Addr) : Prop where
  ok : ∀ b ∈ ss, b ≠ Z.env.locals ∧ b ∉ Z.fs ∧ Z.s_0.heap.objs.size ≤ b ∧ (∀ x c, Z.env.cells.lookup x = some c → c ≠ b) ∧ (∀ p ∈ Z.pn, p.1 ≠ b) ∧ b ∉ fp
section
variable (Z : Cx) (σw : L2.St) (fp ss : List Addr) (tn : Nat → Heap → Prop) (Wt : Nat → Nat → Nat → Hp → Prop) (Yd : Nat → Nat → Nat → V → Hp → Prop) (En : Nat → Hp → Prop) (N : Nat)
/-- ahead of turn i -/
structure GAt (i : Nat) (H : Hp) (s : Shared) : Prop where
  inv : Inv Z [] σw H s
  tn : tn i s.heap
  fp : ∀ b ∈ fp, H b = none
  ss : ∀ b ∈ ss, H b = none ∧ ∃ o, s.heap.get? b = some o ∧ ∀ v, o.data ≠ .cell v
def GEnd' : GenEnd := fun n s₀ r s => r = .ok .next ∧ ∃ j H, n + j = N ∧ Inv Z [] σw H s ∧ En j H ∧ (∀ b ∈ ss, H b = none) ∧ ∀ b ∈ ss, ∀ o, s₀.heap.get? b = some o → s.heap.get? b = some o
def GYld : Protocol := fun n s₀ v s kap => ∃ i r j y H, n + 1 + j = N ∧ RelV y v ∧ GAt Z σw fp ss tn (i + 1) H s ∧ Yd i r j y H ∧ (∀ b ∈ ss, ∀ o, s₀.heap.get? b = some o → s.heap.get? b = some o) ∧ ∀ s' r', r' < r → Wt (i + 1) r' (j + 1) H → Kept ss s s' → kap (.send .none) s'
end
theorem inv_sleep {Z : Cx} {σ : L2.St} {H : Hp} {s s' : Shared} {fp ss : List Addr} (M : Mine Z fp ss) (I : Inv Z [] σ H s) (hs : ∀ b ∈ ss, H b = none) (k : Kept ss s s') : Inv Z [] σ H s' := by
  have nt : ∀ b u, H b = some u → b ∉ ss := fun b u e z => by rw [hs b z] at e; cases e
  refine I.call' (ch := ss) k.os ⟨fun b o e n _ hb => k.keep b o hb e, fun b o e n _ hb => ⟨o.slots, k.keep b o hb e⟩, fun _ _ _ n _ => n, fun b o e hb => ⟨o, k.keep b o hb e⟩, fun _ _ q => q, fun _ _ _ q => q, fun _ ps q => ⟨#[], by rw [q]; simp⟩⟩ (fun b u e => ?_) k.bare fun b hb => ?_
  · refine (I.hok b u e).stay (fun c v hc q => k.keep c v ?_ q) (fun _ q => q) fun _ _ q => q
    rcases hc with z | z
    · rw [z]; exact nt b u e
    · exact nt c _ z
  · obtain ⟨h1, h2, h3, h4, h5, h6⟩ := M.ok b hb
    exact ⟨.inr h3, h1, h4, fun p hp => h5 p (by simpa using hp)⟩
theorem GAt.sleep {Z : Cx} {σw : L2.St} {fp ss : List Addr} {tn : Nat → Heap → Prop} {P : Program} {w : World} {K : PySem.W.Frag} {tg : Expr} {J : It} {it : Addr} (T : Turn P w K tg J fp it tn) (M : Mine Z fp ss) {i : Nat} {H : Hp} {s s' : Shared} (g : GAt Z σw fp ss tn i H s) (k : Kept ss s s') : GAt Z σw fp ss tn i H s' :=
  ⟨inv_sleep M g.inv (fun b hb => (g.ss b hb).1) k, T.keep _ _ _ g.tn fun b hb o e => k.keep b o (fun z => (M.ok b z).2.2.2.2.2 hb) e, g.fp, fun b hb => ⟨(g.ss b hb).1, k.there b hb⟩⟩
theorem over_gen {B : Around} {elt : Expr} {cs : List Comprehension} {scope : Scope} {pos : Pos} {it acc : Value} {env : Env} : B.over (.compLoop (.GeneratorExp elt cs scope pos) 0 it acc env) [] = B.deeper env := by
  obtain ⟨hd, d, fr, gs, u⟩ := B
  rfl
theorem over_gen0 {B : Around} {elt : Expr} {cs : List Comprehension} {scope : Scope} {pos : Pos} {it acc : Value} {env : Env} : B.over (.compStart (.GeneratorExp elt cs scope pos) 0 it acc env) [] = B.deeper env := by
  obtain ⟨hd, d, fr, gs, u⟩ := B
  rfl
/-- what one turn does -/
abbrev Turns (J : It) (g : TG) (tt : TT) (te : TE) (σ : L2.St) (vs : List Nat) (Wt : Nat → Nat → Nat → Hp → Prop) (Yd : Nat → Nat → Nat → V → Hp → Prop) (En : Nat → Hp → Prop) (N : Nat) : Prop :=
  ∀ i r j H, Wt i r j H → (J.stop i H ∧ En j H) ∨ (J.go i H ∧ ∀ x H', J.yld i H x H' → g x (wipe σ vs) H' fun σ2 H2 => wipe σ2 vs = wipe σ vs ∧ tt σ2 H2 fun b H3 =>
      if b = true then te σ2 H3 fun y H4 => j < N ∧ Yd i r j y H4 else ∃ r', r' < r ∧ Wt (i + 1) r' j H3)
/-- all that is said of the frame Z and of who draws in B -/
structure Gen (Z : Cx) (B : Around) (tg : Expr) (ifs : List Expr) (elt : Expr) (J : It) (fp ss : List Addr) (it : Addr) (tn : Nat → Heap → Prop) (g : TG) (tt : TT) (te : TE) : Prop where
  hA : Z.A = B.deeper Z.env
  hcalm : Z.calm = true
  hco : Z.env.scope.isCoroutine = false
  hxe : Z.xe = fun _ _ => False
  T : Turn Z.prog Z.w Z.K tg J fp it tn
  hfx : Z.ex = fp
  hfpn : ∀ p ∈ Z.pn, ∀ b ∈ fp, p.1 ≠ b
  M : Mine Z fp ss
  hg : PG Z tg g
  ht : PTs Z ifs tt
  he : PE Z elt te
section
variable {Z : Cx} {B : Around} {elt iter tg : Expr} {ifs : List Expr} {scope : Scope} {pos : Pos} {it : Addr} {vs : List Nat} {σ : L2.St} {J : It} {fp ss : List Addr} {tn : Nat → Heap → Prop} {g : TG} {tt : TT} {te : TE}
  {Wt : Nat → Nat → Nat → Hp → Prop} {Yd : Nat → Nat → Nat → V → Hp → Prop} {En : Nat → Hp → Prop} {N : Nat}
/-- the turns -/
theorem seg_turns (G : Gen Z B tg ifs elt J fp ss it tn g tt te) (turn : Turns J g tt te σ vs Wt Yd En N) :
    ∀ (r i j : Nat) (s₀ s : Shared) (H : Hp), j ≤ N → Wt i r j H → GAt Z (wipe σ vs) fp ss tn i H s → (∀ b ∈ ss, ∀ o, s₀.heap.get? b = some o → s.heap.get? b = some o) →
      Seg (model Z.prog Z.w) B (GEnd' Z (wipe σ vs) ss En N) (GYld Z (wipe σ vs) fp ss tn Wt Yd N) (N - j) s₀ (.compLoop (.GeneratorExp elt [⟨tg, iter, ifs, 0⟩] scope pos) 0 (.ref it) .none Z.env)
        ((model Z.prog Z.w).den (.compLoop (.GeneratorExp elt [⟨tg, iter, ifs, 0⟩] scope pos) 0 (.ref it) .none Z.env)) [] s := by
  obtain ⟨hA, hcalm, hco, hpn, T, hfx, hfpn, M, hg, ht, he⟩ := G
  have ov : B.over (.compLoop (.GeneratorExp elt [⟨tg, iter, ifs, 0⟩] scope pos) 0 (.ref it) .none Z.env) [] = Z.A := by rw [over_gen, hA]
  have stat : ∀ {pl : List (Addr × Obj)} {σ' : L2.St} {H' : Hp} {s' : Shared}, Inv Z pl σ' H' s' → (∀ p ∈ pl, p.1 ∈ ss) → (∀ b ∈ fp, H' b = none) → ∀ b ∈ fp, FpOk Z pl H' b := fun {pl σ' H' s'} I' hpl hn b hb => by
    have hbx : b ∈ Z.ex := by rw [hfx]; exact hb
    refine ⟨hn b hb, (I'.ok.exf b hbx).1, I'.ok.exfs b hbx, .inl hbx, fun x c e => (I'.ok.exf b hbx).2 x c e, fun p hp z => ?_⟩
    rcases List.mem_append.mp hp with q | q
    · exact hfpn p q b hb z
    · exact (M.ok p.1 (hpl p q)).2.2.2.2.2 (by rw [z]; exact hb)
  have own : ∀ {σ' : L2.St} {H' : Hp} {s' : Shared}, Inv Z [] σ' H' s' → (∀ b ∈ ss, H' b = none) → ∀ b ∈ ss, FpOk Z [] H' b := fun {σ' H' s'} I' hn b hb => by
    obtain ⟨h1, h2, h3, h4, h5, h6⟩ := M.ok b hb
    exact ⟨hn b hb, h1, h2, .inr h3, h4, fun p hp => h5 p (by simpa using hp)⟩
  intro r
  induction r using Nat.strongRecOn with
  | ind r ih =>
    intro i j s₀ s H hj w ga hold
    show Seg _ B _ _ _ s₀ _ ((compTurn (.GeneratorExp elt [⟨tg, iter, ifs, 0⟩] scope pos) 0 (.ref it) .none Z.env).onRaise (leaving Z.env)) [] s
    rw [compTurn_gen, Sem.onRaise_eq_wrap]
    refine seg_bind_wrap (wpAny_standAt ?_)
    have IP := ga.inv.pinned (own ga.inv fun b hb => (ga.ss b hb).1) (fun b hb => (ga.ss b hb).2)
    have mem : ∀ p ∈ ([] ++ pinsAt ss s.heap : List (Addr × Obj)), p.1 ∈ ss := fun p hp => (of_pinsAt (by simpa using hp)).1
    have held : ∀ {pl : List (Addr × Obj)} {σ' : L2.St} {H' : Hp} {s' : Shared}, Inv Z (([] ++ pinsAt ss s.heap) ++ pl) σ' H' s' → ∀ b ∈ ss, H' b = none ∧ ∀ o, s.heap.get? b = some o → s'.heap.get? b = some o := fun {pl σ' H' s'} I' b hb => by
      obtain ⟨o, e, _⟩ := (ga.ss b hb).2
      obtain ⟨z1, z2, _⟩ := I'.pin (b, o) (List.mem_append_right _ (List.mem_append_left _ (List.mem_append_right _ (mem_pinsAt hb e))))
      refine ⟨z2, fun o' e' => ?_⟩
      rw [e] at e'
      cases e'
      exact z1
    rcases turn i r j H w with ⟨stop, qe⟩ | ⟨go, step⟩
    · refine seg_bind_wrap ?_
      rw [ov]
      refine thnF (T.done Z rfl rfl rfl hcalm i _ s _ H (fun _ _ => False) IP (stat IP mem ga.fp) ga.tn stop) fun r1 s1 ⟨hr, I1⟩ => ?_
      subst hr
      have hd := held (pl := []) (by rw [List.append_nil]; exact I1)
      exact seg_end (.ok .next) ⟨rfl, j, H, by omega, I1.unpinned (pins := []), qe, fun b hb => (hd b hb).1, fun b hb o e => (hd b hb).2 o (hold b hb o e)⟩
    · refine seg_bind_wrap ?_
      rw [ov]
      refine thnF (T.item Z rfl rfl rfl hcalm i _ s _ H (fun _ _ => False) IP (stat IP mem ga.fp) ga.tn go) fun r1 s1 ⟨u, hr, h1⟩ => ?_
      subst hr
      refine seg_bind_wrap ?_
      rw [ov]
      refine thnF h1 fun _ s2 ⟨x, H2, I2, r2, y2, st2, n2⟩ => ?_
      have I2' := I2.pinned (stat I2 mem n2) (T.obj _ _ st2)
      have xf : ∀ {α : Type} {t : Sem α} {Q : α → Shared → Prop} {s : Shared}, wpAny (model Z.prog Z.w) Z.A t Q Z.xe s → wpAny (model Z.prog Z.w) Z.A t Q (fun _ _ => False) s := fun h => by rw [hpn] at h; exact h
      refine seg_bind_wrap ?_
      rw [ov]
      refine thnF (xf (hg.run _ s2 _ H2 x u _ I2' r2 (step x H2 y2))) fun _ s3 ⟨σ3, H3, I3, hw3, q3⟩ => ?_
      refine seg_bind_wrap ?_
      rw [ov]
      refine thnF (xf (ht.run _ s3 σ3 H3 _ I3 q3)) fun b s4 ⟨H4, I4, q4⟩ => ?_
      have fin : ∀ {s' : Shared} {H' : Hp}, Inv Z (([] ++ pinsAt ss s.heap) ++ pinsAt fp s2.heap) σ3 H' s' → GAt Z (wipe σ vs) fp ss tn (i + 1) H' s' := fun {s' H'} I' => by
        have pin' : ∀ b ∈ fp, ∀ o, s2.heap.get? b = some o → s'.heap.get? b = some o ∧ H' b = none := fun b hb o e =>
          let z := I'.pin (b, o) (List.mem_append_right _ (List.mem_append_right _ (mem_pinsAt hb e)))
          ⟨z.1, z.2.1⟩
        have hl : (wipe σ vs).length = σ3.length := by rw [← hw3, wipe_length]
        refine ⟨((I'.unpinned (pins := [] ++ pinsAt ss s.heap)).unpinned (pins := [])).weak hl (fun j v e => ?_), T.keep _ _ _ st2 fun b hb o e => (pin' b hb o e).1, fun b hb => ?_, fun b hb => ?_⟩
        · rw [← hw3] at e
          exact (wipe_some e).1
        · obtain ⟨o, e, _⟩ := T.obj _ _ st2 b hb
          exact (pin' b hb o e).2
        · obtain ⟨o, e, d⟩ := (ga.ss b hb).2
          exact ⟨(held I' b hb).1, o, (held I' b hb).2 o e, d⟩
      cases b with
      | false =>
        simp only [Bool.false_eq_true, if_false] at q4 ⊢
        obtain ⟨r', hr', w'⟩ := q4
        exact seg_again rfl (ih r' hr' (i + 1) j s₀ s4 H4 hj w' (fin I4) fun b hb o e => (held I4 b hb).2 o (hold b hb o e))
      | true =>
        simp only [if_true] at q4 ⊢
        have hy : ∀ v, yieldOut Z.env v = yieldValue v := fun v => by simp only [yieldOut, hco, Bool.false_eq_true, if_false]
        simp only [hy]
        rw [Sem.bind_eq_wrap', Sem.bind_eq_wrap', Sem.wrap_wrap, Sem.wrap_wrap]
        refine seg_wrap ?_
        rw [ov]
        refine thnF (xf (he.run _ s4 σ3 H4 _ I4 q4)) fun v s5 ⟨y, H5, I5, r5, jn, yd⟩ => ?_
        have en : N - j = (N - (j + 1)) + 1 := by omega
        rw [en]
        refine seg_at (seg_yield rfl rfl rfl ⟨i, r, j, y, H5, by omega, r5, fin I5, yd, fun b hb o e => (held I5 b hb).2 o (hold b hb o e), fun s' r' hr' w' k => ?_⟩)
        exact seg_again rfl (ih r' hr' (i + 1) (j + 1) s' s' H5 jn w' ((fin I5).sleep T M k) fun _ _ _ e => e)
/-- its beginning -/
theorem seg_begin (G : Gen Z B tg ifs elt J fp ss it tn g tt te) (turn : Turns J g tt te σ vs Wt Yd En N)
    (r : Nat) (s₀ s : Shared) (H : Hp) (w : Wt 0 r 0 H) (ga : GAt Z (wipe σ vs) fp ss tn 0 H s) (hold : ∀ b ∈ ss, ∀ o, s₀.heap.get? b = some o → s.heap.get? b = some o) :
      Seg (model Z.prog Z.w) B (GEnd' Z (wipe σ vs) ss En N) (GYld Z (wipe σ vs) fp ss tn Wt Yd N) N s₀ (.compStart (.GeneratorExp elt [⟨tg, iter, ifs, 0⟩] scope pos) 0 (.ref it) .none Z.env)
        ((model Z.prog Z.w).den (.compStart (.GeneratorExp elt [⟨tg, iter, ifs, 0⟩] scope pos) 0 (.ref it) .none Z.env)) [] s := by
  have loop := seg_turns (iter := iter) (scope := scope) (pos := pos) G turn r 0 0 s₀ s H (Nat.zero_le _) w ga hold
  have T := G.T
  show Seg _ B _ _ _ s₀ _ ((compStart (.GeneratorExp elt [⟨tg, iter, ifs, 0⟩] scope pos) 0 (.ref it) .none Z.env).onRaise (leaving Z.env)) [] s
  unfold compStart
  rw [Sem.onRaise_eq_wrap]
  show Seg _ B _ _ _ s₀ _ ((ask >>= _).wrap _ _ _ _) [] s
  refine seg_bind_wrap (wpAny_askSetting ?_)
  split
  · exact seg_again rfl loop
  · first
      | exact seg_bind_wrap (wpAny_rule (seg_bind_wrap (wpAny_standAt (seg_bind_wrap (T.self _ 0 s _ _ ga.tn (seg_again rfl loop))))))
      | (refine seg_bind_wrap (wpAny_rule ?_); show Seg _ B _ _ _ s₀ _ ((standAt iter.pos >>= _).wrap _ _ _ _) [] s; exact seg_bind_wrap (wpAny_standAt (seg_bind_wrap (T.self _ 0 s _ _ ga.tn (seg_again rfl loop)))))
end
/-! ### who draws -/
/-- the generator sleeps: at most n more -/
def Sleeps (Z : Cx) (B : Around) (σw : L2.St) (fp ss : List Addr) (tn : Nat → Heap → Prop) (Wt : Nat → Nat → Nat → Hp → Prop) (Yd : Nat → Nat → Nat → V → Hp → Prop) (En : Nat → Hp → Prop) (N g n : Nat) (s : Shared) : Prop :=
  ∃ gs, s.gens[g]? = some gs ∧ ∀ s', Kept ss s s' → gs.Goes (model Z.prog Z.w) B (GEnd' Z σw ss En N) (GYld Z σw fp ss tn Wt Yd N) n (.send .none) s'
theorem kept_setGen {ss : List Addr} {s : Shared} {g : Nat} {x : GenState} (h : AllBare s.gens) (hx : x.bare = true) (ht : ∀ b ∈ ss, ∃ o, s.heap.get? b = some o ∧ ∀ v, o.data ≠ .cell v) : Kept ss s (s.setGen g x) :=
  ⟨rfl, allBare_setGen h hx, fun _ _ _ e => e, ht⟩
section
variable {Z : Cx} {A : Around} {σw : L2.St} {fp ss : List Addr} {tn : Nat → Heap → Prop} {Wt : Nat → Nat → Nat → Hp → Prop} {Yd : Nat → Nat → Nat → V → Hp → Prop} {En : Nat → Hp → Prop} {N g n : Nat} {s : Shared} {a : Addr}
theorem gen_next {P : Program} {w : World} {K : PySem.W.Frag} {tg : Expr} {J : It} {it : Addr} {H : Hp} {Q : Option Value → Shared → Prop} {E : Value → Shared → Prop} (hh : A.handled = none) (hroom : A.depth < recursionLimit) (T : Turn P w K tg J fp it tn) (M : Mine Z fp ss)
    (hgo : ∀ {h : Heap}, (∀ p ∈ Z.pn, h.get? p.1 = some p.2) → h.IsGen a g) (I : Inv Z [] σw H s) (hs : ∀ b ∈ ss, H b = none ∧ ∃ o, s.heap.get? b = some o ∧ ∀ v, o.data ≠ .cell v) (sl : Sleeps Z A.in1 σw fp ss tn Wt Yd En N g n s)
    (hY : ∀ v s1 i r j y H', n - 1 + 1 + j = N → RelV y v → GAt Z σw fp ss tn (i + 1) H' s1 → Yd i r j y H' → (∀ b ∈ ss, ∀ o, s.heap.get? b = some o → s1.heap.get? b = some o) → (∀ r', r' < r → Wt (i + 1) r' (j + 1) H' → ∃ m, n = m + 1 ∧ Sleeps Z A.in1 σw fp ss tn Wt Yd En N g m s1) → Q (some v) s1)
    (hE : ∀ s1 j H', n + j = N → Inv Z [] σw H' s1 → En j H' → (∀ b ∈ ss, H' b = none) → (∀ b ∈ ss, ∀ o, s.heap.get? b = some o → s1.heap.get? b = some o) → Q none s1) :
    wpAny (model Z.prog Z.w) A (pyNext (.ref a)) Q E s := by
  obtain ⟨gs, hgs, hgoes⟩ := sl
  have pins : ∀ {σ' : L2.St} {H' : Hp} {s' : Shared}, Inv Z [] σ' H' s' → ∀ p ∈ Z.pn, s'.heap.get? p.1 = some p.2 := fun {σ' H' s'} I' p hp => (I'.pin p (List.mem_append_left _ hp)).1
  have lt : g < s.gens.size := (Array.getElem?_eq_some_iff.mp hgs).1
  refine GenW.wpAny_gsz (n := g + 1) lt (wpAny_pyNext_genexpQ (P := fun n s₀ s1 => ∃ j H, n + j = N ∧ Inv Z [] σw H s1 ∧ En j H ∧ (∀ b ∈ ss, H b = none) ∧ ∀ b ∈ ss, ∀ o, s₀.heap.get? b = some o → s1.heap.get? b = some o) hh I.nolimit hroom (hgo (pins I)) hgs
    (hgoes _ (kept_setGen I.bare rfl fun b hb => (hs b hb).2)) (fun v s1 gs' hb hv => ?_) fun s1 hp h' hk => ?_)
  · intro hsz
    obtain ⟨i', r, j, y, H', e1, e2, ga, yd, old, kap⟩ := hv
    have k1 : Kept ss s1 (s1.setGen g gs') := kept_setGen ga.inv.bare hb fun b hb => (ga.ss b hb).2
    refine hY v _ i' r j y H' e1 e2 (ga.sleep T M k1) yd old fun r' hr' w' => ?_
    have kz : ∀ s', Kept ss (s1.setGen g gs') s' → Kept ss s1 s' := fun s' k => ⟨k.os, k.bare, k.keep, k.there⟩
    cases n with
    | zero => exact (kap s1 r' hr' w' ⟨rfl, ga.inv.bare, fun _ _ _ e => e, fun b hb => (ga.ss b hb).2⟩).elim
    | succ m =>
      have hsz1 : g < s1.gens.size := by
        have q : (s1.setGen g gs').gens.size = s1.gens.size := GenW.setGen_size _ _ _
        have hsz' : g + 1 ≤ (s1.setGen g gs').gens.size := hsz
        omega
      exact ⟨m, rfl, gs', setGen_at hsz1, fun s' k => kap s' r' hr' w' (kz s' k)⟩
  · intro hsz
    obtain ⟨j, H', e1, I', en, hn, old⟩ := hp
    have k1 : Kept [] s1 { s1.setGen g .finished with heap := h' } := ⟨rfl, allBare_setGen I'.bare rfl, fun b o _ e => hk b o e, fun b hb => by simp at hb⟩
    exact hE _ j H' e1 (inv_sleep (fp := fp) ⟨fun b hb => by simp at hb⟩ I' (fun b hb => by simp at hb) k1) en hn fun b hb o e => hk b o (old b hb o e)
end
end BK
set_option Elab.async false
set_option linter.all false
set_option maxRecDepth 100000
set_option maxHeartbeats 4000000
/-! KitY: all, any, sum of a generator expression whose element runs in the layer. -/
namespace BK
open PySem PySem.Spec PyProof.Rows L2 LamX
/-- a generator just made: X's context stands at s4, the generator at s5 -/
structure Born (X : Cx) (pins : List (Addr × Obj)) (σ : L2.St) (own : List (Str × Nat)) (tg elt iter : Expr) (ifs : List Expr) (scope : Scope) (gpos : Pos) (J : It) (H2 : Hp) (s4 s5 : Shared) (fp : List Addr) (it : Addr) (tn : Nat → Heap → Prop) (code : Value) (a : Addr) (go : Obj) (g : Nat) : Prop where
  I : Inv X pins σ H2 s4
  hfp : ∀ b ∈ fp, FpOk X pins H2 b ∧ b < s4.heap.objs.size
  T : Turn X.prog X.w X.K tg J fp it tn
  t0 : tn 0 s4.heap
  os : s5.os = s4.os
  bare : AllBare s5.gens
  keep : ∀ b o, s4.heap.get? b = some o → s5.heap.get? b = some o
  ns : s5.heap.Ns s4.heap.objs.size fun y => if y = ".0" then some (.ref it) else none
  ga : s5.heap.get? a = some go
  ca : s4.heap.objs.size < a
  al : a < s5.heap.objs.size
  gn : ∀ h : Heap, h.get? a = some go → h.IsGen a g
  gc : ∀ v, go.data ≠ .cell v
  gg : s5.gens[g]? = some (.fresh (.compStart (.GeneratorExp elt [⟨tg, iter, ifs, 0⟩] scope gpos) 0 (.ref it) .none (gEnv X scope s4.heap.objs.size code)))
section
variable {X : Cx} {pins : List (Addr × Obj)} {σ : L2.St} {H : Hp} {s : Shared}
theorem gen_born {c P : Addr} {elt iter tg : Expr} {ifs : List Expr} {gpos : Pos} {scope : Scope} {own : List (Str × Nat)} {wi : TI} {Q' : Value → Shared → Prop} {R : It → Hp → Prop} (hroom : X.A.depth < recursionLimit)
    (TB : GxR.TabB X.base X.mg c P) (hcode : X.env.code = .ref c) (S : GenN X.N X.env.scope scope own) (hi : PI X tg iter wi) (hs : ∀ v, genFold iter X.env v = pure v)
    (I : Inv X pins σ H s) (h : wi σ H R) (hR : ∀ J H1, R J H1 → TabS H1 P (X.env.qual ++ "<genexpr>"))
    (hQ : ∀ (J : It) (H1 H2 : Hp) (s4 s5 : Shared) (fp : List Addr) (it : Addr) (tn : Nat → Heap → Prop) (code : Value) (a : Addr) (go : Obj) (g : Nat), R J H1 → Grow P (X.env.qual ++ "<genexpr>") H1 H2 → Born X pins σ own tg elt iter ifs scope gpos J H2 s4 s5 fp it tn code a go g → Q' (.ref a) s5) :
    wpAny (model X.prog X.w) X.A (eval (.GeneratorExp elt [⟨tg, iter, ifs, 0⟩] scope gpos) X.env) Q' X.xe s := by
  have hfree : ∀ y ∈ scope.names, y.2 = .free → ∃ c, X.env.cells.lookup y.1 = some c := fun y hy e => by
    rcases S.blk.free y hy e with k | k
    · exact I.ok.has _ (.inl k)
    · exact I.ok.has _ (.inr k)
  refine wpAny_GeneratorExp_make S.co (closure_ok hfree) S.cell S.dot S.blk.kind hroom (thn (hi.run pins s σ H _ I h) fun xv s1 h1 => thn h1 fun itv s2 h2 => ?_) hs
  obtain ⟨it, fp, tn, J, H1, e, I2, T, st2, f2, r⟩ := h2
  subst e
  refine ⟨I2.nolimit, ?_⟩
  have tS := hR J H1 r
  obtain ⟨ps, hP, _, _⟩ := id tS
  refine code_grow I2 hcode TB tS fun code h3 tk H3 I3 gr ext sz old => ?_
  obtain ⟨bm, ob, e1, e2, e3, e4, e5, e6, e7, e8⟩ := TB.bm
  have hbm : h3.get? bm = some ob := ext _ _ e4 (I2.bk _ _ e5)
  refine wpAny_builtinsFor (m := X.mg) (by rw [I2.ok.glob]; exact (I2.mod.glob.keeps I2.bk).extBut ext TB.gP) e1 e2 hbm e6 e7 e8 ?_
  intro h' hns hsb
  have nP : ∀ b ∈ fp, b ≠ P := fun b hb z => by
    have := (f2 b hb).1
    rw [z, hP] at this
    cases this
  have lt2 : ∀ b ∈ fp, b < s2.heap.objs.size := fun b hb => by
    obtain ⟨o, e, _⟩ := T.obj _ _ st2 b hb
    exact Heap.lt_size e
  have sz' : h'.objs.size = h3.objs.size + 1 := by rw [hsb.1, Heap.size_push]
  have keep' : ∀ b o, h3.get? b = some o → h'.get? b = some o := fun b o e => hsb.extBut b o (Nat.ne_of_lt (Heap.lt_size e)) (Heap.get?_push_of_some _ e)
  refine hQ J H1 H3 { s2 with heap := h3, toks := tk } _ fp it tn code h'.objs.size { cls := .type "generator", data := .fields #[.int s2.gens.size 0, .str "<genexpr>" (tk + 1), .str (X.env.qual ++ "<genexpr>") (tk + 1 + 1)] } s2.gens.size r gr ⟨I3, fun b hb => ⟨⟨old b (lt2 b hb) (f2 b hb).1, (f2 b hb).2⟩, Nat.lt_of_lt_of_le (lt2 b hb) sz⟩, T, ?_, rfl, ?_, fun b o e => Heap.get?_push_of_some _ (keep' b o e), hns.push _, Heap.get?_push_size _ rfl, ?_, ?_, fun h e => ⟨_, _, _, e, rfl, rfl, rfl⟩, (fun v z => by cases z), Array.getElem?_push_size ..⟩
  · exact T.keep _ _ _ st2 fun b hb o e => ext b o (nP b hb) e
  · exact AllBare.push I3.bare rfl
  · show h3.objs.size < h'.objs.size
    omega
  · show h'.objs.size < (h'.push _).objs.size
    rw [Heap.size_push]
    exact Nat.lt_succ_self _
variable {own : List (Str × Nat)} {tg elt iter : Expr} {ifs : List Expr} {scope : Scope} {gpos : Pos} {J : It} {H2 : Hp} {s4 s5 : Shared} {fp : List Addr} {it : Addr} {tn : Nat → Heap → Prop} {code : Value} {a : Addr} {go : Obj} {g : Nat}
/-- back in the def's context -/
theorem Born.back (b : Born X pins σ own tg elt iter ifs scope gpos J H2 s4 s5 fp it tn code a go g) {B : Around} {σw : L2.St} {H' : Hp} {s' : Shared} (I' : Inv (gCx X B s4 H2 scope s4.heap.objs.size code fp [(a, go)]) [] σw H' s') : Inv X pins σ H' s' :=
  b.I.call' (ch := fp) I'.os I'.base I'.hok I'.bare fun c hc => ⟨(b.hfp c hc).1.2.2.2.1, (b.hfp c hc).1.2.1, (b.hfp c hc).1.2.2.2.2.1, (b.hfp c hc).1.2.2.2.2.2⟩
theorem Born.start (b : Born X pins σ own tg elt iter ifs scope gpos J H2 s4 s5 fp it tn code a go g) (S : GenN X.N X.env.scope scope own) (hN : X.N.Nodup) {B : Around} (hh : B.handled = none) (hB : B.frames = some X.stack) :
    Inv (gCx X B s4 H2 scope s4.heap.objs.size code fp [(a, go)]) [] (wipe σ (own.map (·.2))) H2 s5 := by
  have h := g_start (B := B) (code := code) (tk := s5.toks) (gs := s5.gens) b.I S hN hh hB b.hfp b.ns b.keep b.bare b.ga b.ca b.gc
  have e : ({ s4 with heap := s5.heap, toks := s5.toks, gens := s5.gens } : Shared).os = s5.os := b.os.symm
  exact inv_sleep (fp := []) (ss := []) ⟨fun c hc => by simp at hc⟩ h (fun c hc => by simp at hc) ⟨e.symm, b.bare, fun _ _ _ z => z, fun c hc => by simp at hc⟩
/-- the consumer's things ss, new behind the generator -/
theorem Born.mine (b : Born X pins σ own tg elt iter ifs scope gpos J H2 s4 s5 fp it tn code a go g) (S : GenN X.N X.env.scope scope own) (B : Around) {ss : List Addr} (hss : ∀ c ∈ ss, s5.heap.objs.size ≤ c) : Mine (gCx X B s4 H2 scope s4.heap.objs.size code fp [(a, go)]) fp ss := by
  have l4 : s4.heap.objs.size < s5.heap.objs.size := Nat.lt_trans b.ca b.al
  refine ⟨fun c hc => ?_⟩
  have h := hss c hc
  have h4 : s4.heap.objs.size < c := Nat.lt_of_lt_of_le l4 h
  refine ⟨Nat.ne_of_gt h4, fun z => ?_, Nat.le_of_lt h4, fun y d e z => ?_, fun p hp z => ?_, fun z => Nat.lt_irrefl _ (Nat.lt_trans (b.hfp c z).2 h4)⟩
  · have z : c ∈ frs X.stack := z
    rcases List.mem_cons.mp (b.I.stkSub c z) with q | q
    · have := b.I.lt
      rw [← q] at this
      exact Nat.lt_irrefl _ (Nat.lt_trans this h4)
    · exact b.I.nofs (Nat.le_of_lt h4) q
  · have e : (cloFrom X.env.cells scope.names []).lookup y = some d := e
    have k : X.env.cells.lookup y = some d := by
      rcases cloFrom_mem (PySem.mem_of_lookup e) with hm | ⟨h1, h2⟩
      · cases hm
      · rcases S.blk.free _ h1 rfl with k | k
        · obtain ⟨c1, hc⟩ := b.I.ok.has _ (.inl k)
          rw [h2, hc]
          rfl
        · obtain ⟨c1, hc⟩ := b.I.ok.has _ (.inr k)
          rw [h2, hc]
          rfl
    obtain ⟨v, q⟩ := b.I.cell y d k
    have := q.lt
    rw [z] at this
    exact Nat.lt_irrefl _ (Nat.lt_trans this h4)
  · have e : p = (a, go) := by simpa using hp
    rw [e] at z
    have z : a = c := z
    have := b.al
    rw [z] at this
    exact Nat.lt_irrefl _ (Nat.lt_of_lt_of_le this h)
/-- all is ready for the drawing -/
theorem Born.gen (b : Born X pins σ own tg elt iter ifs scope gpos J H2 s4 s5 fp it tn code a go g) (S : GenN X.N X.env.scope scope own) {B : Around} {ss : List Addr} {gt : TG} {tt : TT} {te : TE} (hss : ∀ c ∈ ss, s5.heap.objs.size ≤ c)
    (hg : PG (gCx X B s4 H2 scope s4.heap.objs.size code fp [(a, go)]) tg gt) (ht : PTs (gCx X B s4 H2 scope s4.heap.objs.size code fp [(a, go)]) ifs tt) (he : PE (gCx X B s4 H2 scope s4.heap.objs.size code fp [(a, go)]) elt te) :
    Gen (gCx X B s4 H2 scope s4.heap.objs.size code fp [(a, go)]) B tg ifs elt J fp ss it tn gt tt te where
  hA := rfl
  hcalm := rfl
  hco := S.co
  hxe := rfl
  T := b.T
  hfx := rfl
  hfpn := fun p hp c hc z => by
    have e : p = (a, go) := by simpa using hp
    rw [e] at z
    have z : a = c := z
    have := (b.hfp c hc).2
    rw [← z] at this
    exact Nat.lt_irrefl _ (Nat.lt_trans this b.ca)
  M := b.mine S B hss
  hg := hg
  ht := ht
  he := he
/-- it sleeps at its beginning, in a state s6 where the consumer's things are laid -/
theorem Born.asleep (b : Born X pins σ own tg elt iter ifs scope gpos J H2 s4 s5 fp it tn code a go g) (S : GenN X.N X.env.scope scope own) (hN : X.N.Nodup) {B : Around} (hh : B.handled = none) (hB : B.frames = some X.stack) {ss : List Addr} {gt : TG} {tt : TT} {te : TE} {Wt : Nat → Nat → Nat → Hp → Prop} {Yd : Nat → Nat → Nat → V → Hp → Prop} {En : Nat → Hp → Prop} {N r : Nat}
    (G : Gen (gCx X B s4 H2 scope s4.heap.objs.size code fp [(a, go)]) B tg ifs elt J fp ss it tn gt tt te) (turn : Turns J gt tt te σ (own.map (·.2)) Wt Yd En N) (w : Wt 0 r 0 H2) (hss : ∀ c ∈ ss, s5.heap.objs.size ≤ c) {s6 : Shared} (k : Kept ss s5 s6) (hgg : s6.gens = s5.gens) :
    GAt (gCx X B s4 H2 scope s4.heap.objs.size code fp [(a, go)]) (wipe σ (own.map (·.2))) fp ss tn 0 H2 s6 ∧ Sleeps (gCx X B s4 H2 scope s4.heap.objs.size code fp [(a, go)]) B (wipe σ (own.map (·.2))) fp ss tn Wt Yd En N g N s6 := by
  have I5 := b.start S hN hh hB
  have hn : ∀ c ∈ ss, H2 c = none := fun c hc => I5.hok.fresh (hss c hc)
  have nfp : ∀ c ∈ fp, c ∉ ss := fun c hc z => by
    have h1 := (b.hfp c hc).2
    have h2 := hss c z
    exact Nat.lt_irrefl _ (Nat.lt_trans (Nat.lt_of_lt_of_le h1 (Nat.le_trans (Nat.le_of_lt (Nat.lt_trans b.ca b.al)) h2)) (Nat.lt_succ_self _) |> fun _ => Nat.lt_of_lt_of_le h1 (Nat.le_trans (Nat.le_of_lt (Nat.lt_trans b.ca b.al)) h2))
  have ga : GAt (gCx X B s4 H2 scope s4.heap.objs.size code fp [(a, go)]) (wipe σ (own.map (·.2))) fp ss tn 0 H2 s6 :=
    ⟨inv_sleep G.M I5 hn k, b.T.keep _ _ _ b.t0 fun c hc o e => k.keep c o (nfp c hc) (b.keep c o e), fun c hc => (b.hfp c hc).1.1, fun c hc => ⟨hn c hc, k.there c hc⟩⟩
  refine ⟨ga, .fresh _, by rw [hgg]; exact b.gg, fun s' k' => ⟨rfl, ?_⟩⟩
  exact seg_begin (iter := iter) (scope := scope) (pos := gpos) G turn r s' s' H2 w (ga.sleep b.T G.M k') fun _ _ _ e => e
theorem frames_in1 {A : Around} {l : List Env} (h : A.frames = some l) : A.in1.frames = some l := h
end
/-! ### all, any -/
section
variable {Z : Cx} {A : Around} {σw : L2.St} {fp : List Addr} {tn : Nat → Heap → Prop} {Wt : Nat → Nat → Nat → Hp → Prop} {N g : Nat} {a : Addr} {P : Program} {w : World} {K : PySem.W.Frag} {tg : Expr} {J : It} {it : Addr} {Fin : Bool → Hp → Prop} {R : Result → Shared → Prop}
/-- what is wanted of an item: it goes on at the answer b0, else it is the end -/
abbrev ydB (b0 : Bool) (Wt : Nat → Nat → Nat → Hp → Prop) (Fin : Bool → Hp → Prop) : Nat → Nat → Nat → V → Hp → Prop := fun i r j y H => ∃ b, y = .bl b ∧ if b = b0 then ∃ r', r' < r ∧ Wt (i + 1) r' (j + 1) H else Fin b H
theorem all_draws (hh : A.handled = none) (hroom : A.depth < recursionLimit) (T : Turn P w K tg J fp it tn) (M : Mine Z fp []) (hgo : ∀ {h : Heap}, (∀ p ∈ Z.pn, h.get? p.1 = some p.2) → h.IsGen a g)
    (hR : ∀ b H s', Inv Z [] σw H s' → Fin b H → R (.ok (.ret (.bool b))) s') : ∀ (n : Nat) (s : Shared) (H : Hp), Inv Z [] σw H s → Sleeps Z A.in1.in1 σw fp [] tn Wt (ydB true Wt Fin) (fun _ H => Fin true H) N g n s →
      codeAny (model Z.prog Z.w) A (.builtin "all.loop" ⟨[.ref a], []⟩) R s := by
  intro n
  induction n with
  | zero =>
    intro s H I sl
    refine codeAny_builtin F.entry_all_loop ?_
    rw [Around.under_plainId F.plain_all_loop _]
    show wpAny _ A.in1 (pyNext (.ref a) >>= _) _ _ s
    refine wpAny_bind (gen_next (A := A.in1) hh hroom T M hgo I (fun b hb => by simp at hb) sl (fun v s1 i r j y H' _ rv ga yd _ more => ?_) fun s1 j H' _ I' en _ _ => ?_)
    · obtain ⟨b, rfl, q⟩ := yd
      obtain rfl : v = Value.bool b := rv
      refine wpAny_bind (wpAny_holding (wpAny_truthy_bool ?_))
      refine wpAny_bind (wpAny_letGo ?_)
      cases b with
      | true =>
        obtain ⟨r', hr', w'⟩ := q
        obtain ⟨m, e, _⟩ := more r' hr' w'
        cases e
      | false =>
        simp only [Bool.false_eq_true, if_false] at q ⊢
        exact wpAny_bind (wpAny_rule (wpAny_pure (hR _ _ _ ga.inv q)))
    · exact wpAny_bind (wpAny_rule (wpAny_pure (hR _ _ _ I' en)))
  | succ n ih =>
    intro s H I sl
    refine codeAny_builtin F.entry_all_loop ?_
    rw [Around.under_plainId F.plain_all_loop _]
    show wpAny _ A.in1 (pyNext (.ref a) >>= _) _ _ s
    refine wpAny_bind (gen_next (A := A.in1) hh hroom T M hgo I (fun b hb => by simp at hb) sl (fun v s1 i r j y H' _ rv ga yd _ more => ?_) fun s1 j H' _ I' en _ _ => ?_)
    · obtain ⟨b, rfl, q⟩ := yd
      obtain rfl : v = Value.bool b := rv
      refine wpAny_bind (wpAny_holding (wpAny_truthy_bool ?_))
      refine wpAny_bind (wpAny_letGo ?_)
      cases b with
      | true =>
        obtain ⟨r', hr', w'⟩ := q
        obtain ⟨m, e, sl'⟩ := more r' hr' w'
        cases e
        simp only [if_true]
        exact wpAny_pure ⟨plainId_quiet F.plain_all_loop _, ih _ _ ga.inv sl'⟩
      | false =>
        simp only [Bool.false_eq_true, if_false] at q ⊢
        exact wpAny_bind (wpAny_rule (wpAny_pure (hR _ _ _ ga.inv q)))
    · exact wpAny_bind (wpAny_rule (wpAny_pure (hR _ _ _ I' en)))
theorem any_draws (hh : A.handled = none) (hroom : A.depth < recursionLimit) (T : Turn P w K tg J fp it tn) (M : Mine Z fp []) (hgo : ∀ {h : Heap}, (∀ p ∈ Z.pn, h.get? p.1 = some p.2) → h.IsGen a g)
    (hR : ∀ b H s', Inv Z [] σw H s' → Fin b H → R (.ok (.ret (.bool b))) s') : ∀ (n : Nat) (s : Shared) (H : Hp), Inv Z [] σw H s → Sleeps Z A.in1.in1 σw fp [] tn Wt (ydB false Wt Fin) (fun _ H => Fin false H) N g n s →
      codeAny (model Z.prog Z.w) A (.builtin "any.loop" ⟨[.ref a], []⟩) R s := by
  intro n
  induction n with
  | zero =>
    intro s H I sl
    refine codeAny_builtin F.entry_any_loop ?_
    rw [Around.under_plainId F.plain_any_loop _]
    show wpAny _ A.in1 (pyNext (.ref a) >>= _) _ _ s
    refine wpAny_bind (gen_next (A := A.in1) hh hroom T M hgo I (fun b hb => by simp at hb) sl (fun v s1 i r j y H' _ rv ga yd _ more => ?_) fun s1 j H' _ I' en _ _ => ?_)
    · obtain ⟨b, rfl, q⟩ := yd
      obtain rfl : v = Value.bool b := rv
      refine wpAny_bind (wpAny_holding (wpAny_truthy_bool ?_))
      refine wpAny_bind (wpAny_letGo ?_)
      cases b with
      | false =>
        obtain ⟨r', hr', w'⟩ := q
        obtain ⟨m, e, _⟩ := more r' hr' w'
        cases e
      | true =>
        simp only [if_true] at q ⊢
        exact wpAny_bind (wpAny_rule (wpAny_pure (hR _ _ _ ga.inv q)))
    · exact wpAny_bind (wpAny_rule (wpAny_pure (hR _ _ _ I' en)))
  | succ n ih =>
    intro s H I sl
    refine codeAny_builtin F.entry_any_loop ?_
    rw [Around.under_plainId F.plain_any_loop _]
    show wpAny _ A.in1 (pyNext (.ref a) >>= _) _ _ s
    refine wpAny_bind (gen_next (A := A.in1) hh hroom T M hgo I (fun b hb => by simp at hb) sl (fun v s1 i r j y H' _ rv ga yd _ more => ?_) fun s1 j H' _ I' en _ _ => ?_)
    · obtain ⟨b, rfl, q⟩ := yd
      obtain rfl : v = Value.bool b := rv
      refine wpAny_bind (wpAny_holding (wpAny_truthy_bool ?_))
      refine wpAny_bind (wpAny_letGo ?_)
      cases b with
      | false =>
        obtain ⟨r', hr', w'⟩ := q
        obtain ⟨m, e, sl'⟩ := more r' hr' w'
        cases e
        simp only [Bool.false_eq_true, if_false]
        exact wpAny_pure ⟨plainId_quiet F.plain_any_loop _, ih _ _ ga.inv sl'⟩
      | true =>
        simp only [if_true] at q ⊢
        exact wpAny_bind (wpAny_rule (wpAny_pure (hR _ _ _ ga.inv q)))
    · exact wpAny_bind (wpAny_rule (wpAny_pure (hR _ _ _ I' en)))
end
section
variable {X : Cx}
/-- all(..), any(..): b0 goes on -/
def tAllX (b0 : Bool) (P : Addr) (q : Str) (wi : TI) (g : TG) (tt : TT) (te : TE) (vs : List Nat) : TE := fun σ H Q => wi σ H fun J H1 => TabS H1 P q ∧ ∀ H2, Grow P q H1 H2 → ∃ (N : Nat) (Wt : Nat → Nat → Nat → Hp → Prop), (∃ r, Wt 0 r 0 H2) ∧
  Turns J g tt te σ vs Wt (ydB b0 Wt fun b H => Q (.bl b) H) (fun _ H => Q (.bl b0) H) N
variable {c P : Addr} {elt iter tg : Expr} {ifs : List Expr} {p pos gpos : Pos} {scope : Scope} {own : List (Str × Nat)} {wi : TI} {g : TG} {tt : TT} {te : TE} {k : Nat}
theorem pe_allX (hr : Room (k + 1) X.A) (hg : Gl X "all") (hm : X.mg "all" = none) (hb : bootBuiltins "all" = some (.builtin "all")) (TB : GxR.TabB X.base X.mg c P) (hcode : X.env.code = .ref c) (S : GenN X.N X.env.scope scope own) (hN : X.N.Nodup) (hi : PI X tg iter wi)
    (hgt : ∀ (B : Around) (s : Shared) (H : Hp) (C : Addr) (code : Value) (fp : List Addr) (pn : List (Addr × Obj)), PG (gCx X B s H scope C code fp pn) tg g) (ht : ∀ (B : Around) (s : Shared) (H : Hp) (C : Addr) (code : Value) (fp : List Addr) (pn : List (Addr × Obj)), PTs (gCx X B s H scope C code fp pn) ifs tt)
    (he : ∀ (B : Around) (s : Shared) (H : Hp) (C : Addr) (code : Value) (fp : List Addr) (pn : List (Addr × Obj)), Room k (B.deeper (gEnv X scope C code)) → PE (gCx X B s H scope C code fp pn) elt te) (hs : ∀ v, genFold iter X.env v = pure v := by intro _; rfl)
    (hst : starEach [.GeneratorExp elt [⟨tg, iter, ifs, 0⟩] scope gpos] X.env = (false, eval (.GeneratorExp elt [⟨tg, iter, ifs, 0⟩] scope gpos) X.env) :: starEach [] X.env := by rfl) :
    PE X (.Call (.Name "all" p) [.GeneratorExp elt [⟨tg, iter, ifs, 0⟩] scope gpos] [] pos) (tAllX true P (X.env.qual ++ "<genexpr>") wi g tt te (own.map (·.2))) := by
  constructor
  intro pins s σ H Q I h
  apply wpAny_Call_Name_kw
  apply ld_blt I hg hm hb
  apply PyProof.Rows.callWith_builtin1 _ hst (by rfl)
  rw [hst]
  show wpAny _ _ (spliced ((false, eval (.GeneratorExp elt [⟨tg, iter, ifs, 0⟩] scope gpos) X.env) :: backTo pos (starEach [] X.env))) _ _ s
  apply Calls.spliced_cons
  refine gen_born (own := own) (by have := hr.dp; omega) TB hcode S hi hs I h (fun J H1 z => z.1) fun J H1 H2 s4 s5 fp it tn code a go g' z gr bn => ?_
  obtain ⟨N, Wt, ⟨r, w⟩, turn⟩ := z.2 H2 gr
  apply Calls.spliced_nil
  refine call_function_tree F.kind_all F.plain_all F.entry_all (F.args_all1 _) ?_
  unfold Builtin.«all»
  refine wpAny_bind (m := oneArg "all" _) (wpAny_pure ?_)
  refine wpAny_bind (wpAny_pyIter_gen (bn.gn _ bn.ga) ?_)
  have hrB : Room k (X.A.in1.in1.deeper (gEnv X scope s4.heap.objs.size code)) := ⟨hr.hd, by have := hr.dp; show X.A.depth + 1 + 3 * k + 5 < _; omega, by have := hr.un; show X.A.units + 1 + 1 + 3 + 16 * k + 200 < _; omega⟩
  have G := bn.gen (B := X.A.in1.in1) (ss := []) S (fun c hc => by simp at hc) (hgt _ _ _ _ _ _ _) (ht _ _ _ _ _ _ _) (he _ _ _ _ _ _ _ hrB)
  obtain ⟨ga, sl⟩ := bn.asleep (B := X.A.in1.in1) S hN hr.hd (show X.A.in1.in1.frames = some X.stack from I.ok.frames) G turn w (fun c hc => by simp at hc) ⟨rfl, bn.bare, fun _ _ _ e => e, fun c hc => by simp at hc⟩ rfl
  refine wpAny_pure ⟨plainId_quiet F.plain_all_loop _, all_draws (N := N) (g := g') hr.hd (by have := hr.dp; omega) bn.T G.M (fun e => bn.gn _ (e (a, go) (by simp))) (fun b H' s' I' q => ?_) N s5 H2 ga.inv sl⟩
  exact ⟨.bl b, H', bn.back I', rfl, q⟩
theorem pe_anyX (hr : Room (k + 1) X.A) (hg : Gl X "any") (hm : X.mg "any" = none) (TB : GxR.TabB X.base X.mg c P) (hcode : X.env.code = .ref c) (S : GenN X.N X.env.scope scope own) (hN : X.N.Nodup) (hi : PI X tg iter wi)
    (hgt : ∀ (B : Around) (s : Shared) (H : Hp) (C : Addr) (code : Value) (fp : List Addr) (pn : List (Addr × Obj)), PG (gCx X B s H scope C code fp pn) tg g) (ht : ∀ (B : Around) (s : Shared) (H : Hp) (C : Addr) (code : Value) (fp : List Addr) (pn : List (Addr × Obj)), PTs (gCx X B s H scope C code fp pn) ifs tt)
    (he : ∀ (B : Around) (s : Shared) (H : Hp) (C : Addr) (code : Value) (fp : List Addr) (pn : List (Addr × Obj)), Room k (B.deeper (gEnv X scope C code)) → PE (gCx X B s H scope C code fp pn) elt te) (hs : ∀ v, genFold iter X.env v = pure v := by intro _; rfl)
    (hst : starEach [.GeneratorExp elt [⟨tg, iter, ifs, 0⟩] scope gpos] X.env = (false, eval (.GeneratorExp elt [⟨tg, iter, ifs, 0⟩] scope gpos) X.env) :: starEach [] X.env := by rfl) :
    PE X (.Call (.Name "any" p) [.GeneratorExp elt [⟨tg, iter, ifs, 0⟩] scope gpos] [] pos) (tAllX false P (X.env.qual ++ "<genexpr>") wi g tt te (own.map (·.2))) := by
  constructor
  intro pins s σ H Q I h
  apply wpAny_Call_Name_kw
  apply ld_blt I hg hm boot_any
  apply PyProof.Rows.callWith_builtin1 _ hst (by rfl)
  rw [hst]
  show wpAny _ _ (spliced ((false, eval (.GeneratorExp elt [⟨tg, iter, ifs, 0⟩] scope gpos) X.env) :: backTo pos (starEach [] X.env))) _ _ s
  apply Calls.spliced_cons
  refine gen_born (own := own) (by have := hr.dp; omega) TB hcode S hi hs I h (fun J H1 z => z.1) fun J H1 H2 s4 s5 fp it tn code a go g' z gr bn => ?_
  obtain ⟨N, Wt, ⟨r, w⟩, turn⟩ := z.2 H2 gr
  apply Calls.spliced_nil
  refine call_function_tree F.kind_any F.plain_any F.entry_any (F.args_any1 _) ?_
  unfold Builtin.«any»
  refine wpAny_bind (m := oneArg "any" _) (wpAny_pure ?_)
  refine wpAny_bind (wpAny_pyIter_gen (bn.gn _ bn.ga) ?_)
  have hrB : Room k (X.A.in1.in1.deeper (gEnv X scope s4.heap.objs.size code)) := ⟨hr.hd, by have := hr.dp; show X.A.depth + 1 + 3 * k + 5 < _; omega, by have := hr.un; show X.A.units + 1 + 1 + 3 + 16 * k + 200 < _; omega⟩
  have G := bn.gen (B := X.A.in1.in1) (ss := []) S (fun c hc => by simp at hc) (hgt _ _ _ _ _ _ _) (ht _ _ _ _ _ _ _) (he _ _ _ _ _ _ _ hrB)
  obtain ⟨ga, sl⟩ := bn.asleep (B := X.A.in1.in1) S hN hr.hd (show X.A.in1.in1.frames = some X.stack from I.ok.frames) G turn w (fun c hc => by simp at hc) ⟨rfl, bn.bare, fun _ _ _ e => e, fun c hc => by simp at hc⟩ rfl
  refine wpAny_pure ⟨plainId_quiet F.plain_any_loop _, any_draws (N := N) (g := g') hr.hd (by have := hr.dp; omega) bn.T G.M (fun e => bn.gn _ (e (a, go) (by simp))) (fun b H' s' I' q => ?_) N s5 H2 ga.inv sl⟩
  exact ⟨.bl b, H', bn.back I', rfl, q⟩
end
end BK
set_option Elab.async false
set_option linter.all false
set_option maxRecDepth 100000
set_option maxHeartbeats 4000000
/-! KitU: sum of a generator expression whose element runs in the layer. -/
namespace BK
open PySem PySem.Spec PyProof.Rows L2 LamX
abbrev accO (i : Int) (t : Tok) (c : Nat) : Obj := { cls := .type "list", dict := none, data := .seq #[.int i t] c, slots := #[] }
theorem Kept.trans {ss : List Addr} {s s1 s2 : Shared} (a : Kept ss s s1) (b : Kept ss s1 s2) : Kept ss s s2 :=
  ⟨b.os.trans a.os, b.bare, fun c o n e => b.keep c o n (a.keep c o n e), b.there⟩
theorem sleeps_on {Z : Cx} {B : Around} {σw : L2.St} {fp ss : List Addr} {tn : Nat → Heap → Prop} {Wt : Nat → Nat → Nat → Hp → Prop} {Yd : Nat → Nat → Nat → V → Hp → Prop} {En : Nat → Hp → Prop} {N g n : Nat} {s s' : Shared}
    (h : Sleeps Z B σw fp ss tn Wt Yd En N g n s) (k : Kept ss s s') (e : s'.gens = s.gens) : Sleeps Z B σw fp ss tn Wt Yd En N g n s' := by
  obtain ⟨gs, hg, go⟩ := h
  exact ⟨gs, by rw [e]; exact hg, fun s2 k2 => go s2 (k.trans k2)⟩
section
variable {Z : Cx} {A : Around} {σw : L2.St} {fp : List Addr} {tn : Nat → Heap → Prop} {Wt : Nat → Nat → Nat → Hp → Prop} {N g : Nat} {a S : Addr} {P : Program} {w : World} {K : PySem.W.Frag} {tg : Expr} {J : It} {it : Addr} {val : Nat → Int} {Fin : Int → Hp → Prop} {R : Result → Shared → Prop}
abbrev ydS (val : Nat → Int) (Wt : Nat → Nat → Nat → Hp → Prop) : Nat → Nat → Nat → V → Hp → Prop := fun i r j y H => y = .int (val j) ∧ ∃ r', r' < r ∧ Wt (i + 1) r' (j + 1) H
/-- the accumulator is written -/
theorem acc_kept {s : Shared} {o : Obj} {f : Obj → Obj} {o' : Obj} {tk : Nat} (hS : s.heap.get? S = some o) (hb : AllBare s.gens) (hf : f o = o') (hnf : (f o).isFreed = false) (hc : ∀ v, o'.data ≠ .cell v) : Kept [S] s { s with heap := s.heap.update S f, toks := tk } where
  os := rfl
  bare := hb
  keep := fun b ob n e => (Heap.get?_update_other _ _ (fun z => n (by rw [z]; exact List.mem_singleton.mpr rfl))).trans e
  there := fun b hb' => by
    rw [List.mem_singleton.mp hb']
    exact ⟨o', by rw [← hf]; exact Heap.get?_update_self f hS hnf, hc⟩
theorem sum_draws (hh : A.handled = none) (hroom : A.depth < recursionLimit) (T : Turn P w K tg J fp it tn) (M : Mine Z fp [S]) (hgo : ∀ {h : Heap}, (∀ p ∈ Z.pn, h.get? p.1 = some p.2) → h.IsGen a g)
    (hR : ∀ j t H s', Inv Z [] σw H s' → Fin (preSum val j) H → R (.ok (.ret (.int (preSum val j) t))) s') : ∀ (n : Nat) (s : Shared) (H : Hp) (j : Nat) (tA : Tok) (c : Nat) (st : Int), (st = 0 ∨ st = 2) → n + j = N → Inv Z [] σw H s → H S = none → s.heap.get? S = some (accO (preSum val j) tA c) →
      Sleeps Z A.in1.in1 σw fp [S] tn Wt (ydS val Wt) (fun j H => Fin (preSum val j) H) N g n s → codeAny (model Z.prog Z.w) A (.builtin "sum.loop" ⟨[.ref a, .ref S, rawInt st, rawInt 0], []⟩) R s := by
  have one : ∀ (n : Nat) (ih : ∀ m, n = m + 1 → ∀ (s : Shared) (H : Hp) (j : Nat) (tA : Tok) (c : Nat) (st : Int), (st = 0 ∨ st = 2) → m + j = N → Inv Z [] σw H s → H S = none → s.heap.get? S = some (accO (preSum val j) tA c) →
      Sleeps Z A.in1.in1 σw fp [S] tn Wt (ydS val Wt) (fun j H => Fin (preSum val j) H) N g m s → codeAny (model Z.prog Z.w) A (.builtin "sum.loop" ⟨[.ref a, .ref S, rawInt st, rawInt 0], []⟩) R s)
      (s : Shared) (H : Hp) (j : Nat) (tA : Tok) (c : Nat) (st : Int), (st = 0 ∨ st = 2) → n + j = N → Inv Z [] σw H s → H S = none → s.heap.get? S = some (accO (preSum val j) tA c) →
      Sleeps Z A.in1.in1 σw fp [S] tn Wt (ydS val Wt) (fun j H => Fin (preSum val j) H) N g n s → codeAny (model Z.prog Z.w) A (.builtin "sum.loop" ⟨[.ref a, .ref S, rawInt st, rawInt 0], []⟩) R s := by
    intro n ih s H j tA c st hst hnj I hn hS sl
    refine codeAny_builtin F.entry_sum_loop ?_
    rw [Around.under_plainId F.plain_sum_loop _]
    show wpAny _ A.in1 (seqItems? (.ref S) >>= _) _ _ s
    refine wpAny_bind (wpAny_seqItems hS rfl ?_)
    show wpAny _ A.in1 (tryCatch (pyNext (.ref a)) _ >>= _) _ _ s
    have owns : ∀ {o : Obj} {H' : Hp} {s' : Shared}, H' S = none → s'.heap.get? S = some o → (∀ v, o.data ≠ .cell v) → ∀ b ∈ [S], H' b = none ∧ ∃ o, s'.heap.get? b = some o ∧ ∀ v, o.data ≠ .cell v := fun {o H' s'} h1 h2 h3 b hb => by
      rw [List.mem_singleton.mp hb]
      exact ⟨h1, o, h2, h3⟩
    refine wpAny_bind (wpAny_tryCatch (gen_next (A := A.in1) hh hroom T M hgo I (owns hn hS fun v z => by cases z) sl (fun v s1 i r j' y H' e1 rv ga yd old more => ?_) fun s1 j' H' e1 I' en hn' old => ?_))
    · obtain ⟨rfl, r', hr', w'⟩ := yd
      obtain ⟨m, rfl, sl1⟩ := more r' hr' w'
      have ej : j' = j := by omega
      subst ej
      obtain ⟨t, rfl⟩ := rv
      have hS1 : s1.heap.get? S = some (accO (preSum val j') tA c) := old S (List.mem_singleton.mpr rfl) _ hS
      have hn1 : H' S = none := (ga.ss S (List.mem_singleton.mpr rfl)).1
      -- behind the write
      have back : ∀ (c2 : Nat) (t2 : Tok) (st2 : Int) (s2 : Shared), (st2 = 0 ∨ st2 = 2) → Kept [S] s1 s2 → s2.gens = s1.gens → s2.heap.get? S = some (accO (preSum val j' + val j') t2 c2) →
          codeAny (model Z.prog Z.w) A (.builtin "sum.loop" ⟨[.ref a, .ref S, rawInt st2, rawInt 0], []⟩) R s2 := fun c2 t2 st2 s2 h1 k h2 h3 =>
        ih m rfl s2 H' (j' + 1) t2 c2 st2 h1 (by omega) (inv_sleep M ga.inv (fun b hb => (ga.ss b hb).1) k) hn1 h3 (sleeps_on sl1 k h2)
      rcases hst with rfl | rfl
      · show wpAny _ A.in1 (if (_ : Bool) = true then (mkInt (preSum val j' + val j') >>= _) else _) _ _ _
        split
        · refine wpAny_bind (wpAny_mkInt ?_)
          show wpAny _ A.in1 (updateSeq S (fun _ => #[.int (preSum val j' + val j') s1.toks]) >>= _) _ _ _
          refine wpAny_bind (wpAny_updateSeq hS1 rfl (wpAny_pure ⟨plainId_quiet F.plain_sum_loop _, ?_⟩))
          exact back _ s1.toks 0 _ (.inl rfl) (acc_kept (tk := s1.toks + 1) hS1 ga.inv.bare rfl rfl fun v z => by cases z) rfl (Heap.get?_update_self _ hS1 rfl)
        · refine wpAny_bind (wpAny_rule ?_)
          refine wpAny_bind (wpAny_attempt (wpAny_holding (wpAny_add_int ?_)))
          show wpAny _ A.in1 (updateSeq S (fun _ => #[.int (preSum val j' + val j') s1.toks]) >>= _) _ _ _
          refine wpAny_bind (wpAny_updateSeq hS1 rfl ?_)
          have hS2 := Heap.get?_update_self (Obj.mapSeq fun _ => #[Value.int (preSum val j' + val j') s1.toks]) hS1 rfl
          have k1 := acc_kept (S := S) (f := Obj.mapSeq fun _ => #[Value.int (preSum val j' + val j') s1.toks]) (tk := s1.toks + 1) hS1 ga.inv.bare rfl rfl fun v z => by cases z
          refine wpAny_bind (wpAny_letGo ?_)
          refine wpAny_bind (wpAny_updateSeq hS2 rfl (wpAny_pure ⟨plainId_quiet F.plain_sum_loop _, ?_⟩))
          exact back _ s1.toks 2 _ (.inr rfl) (k1.trans (acc_kept (s := { s1 with heap := s1.heap.update S (Obj.mapSeq fun _ => #[Value.int (preSum val j' + val j') s1.toks]), toks := s1.toks + 1 }) (tk := s1.toks + 1) hS2 ga.inv.bare rfl rfl fun v z => by cases z)) rfl (Heap.get?_update_self _ hS2 rfl)
      · show wpAny _ A.in1 ((holding [Value.int (val j') t] (binaryOp .Add (.int (preSum val j') tA) (.int (val j') t))).attempt >>= _) _ _ _
        refine wpAny_bind (wpAny_attempt (wpAny_holding (wpAny_add_int ?_)))
        show wpAny _ A.in1 (updateSeq S (fun _ => #[.int (preSum val j' + val j') s1.toks]) >>= _) _ _ _
        refine wpAny_bind (wpAny_updateSeq hS1 rfl ?_)
        have hS2 := Heap.get?_update_self (Obj.mapSeq fun _ => #[Value.int (preSum val j' + val j') s1.toks]) hS1 rfl
        have k1 := acc_kept (S := S) (f := Obj.mapSeq fun _ => #[Value.int (preSum val j' + val j') s1.toks]) (tk := s1.toks + 1) hS1 ga.inv.bare rfl rfl fun v z => by cases z
        refine wpAny_bind (wpAny_letGo ?_)
        refine wpAny_bind (wpAny_updateSeq hS2 rfl (wpAny_pure ⟨plainId_quiet F.plain_sum_loop _, ?_⟩))
        exact back _ s1.toks 2 _ (.inr rfl) (k1.trans (acc_kept (s := { s1 with heap := s1.heap.update S (Obj.mapSeq fun _ => #[Value.int (preSum val j' + val j') s1.toks]), toks := s1.toks + 1 }) (tk := s1.toks + 1) hS2 ga.inv.bare rfl rfl fun v z => by cases z)) rfl (Heap.get?_update_self _ hS2 rfl)
    · have ej : j' = j := by omega
      subst ej
      exact wpAny_pure (hR j' tA H' s1 I' en)
  intro n
  induction n with
  | zero => exact one 0 fun m e => by cases e
  | succ n ih =>
    refine one (n + 1) fun m e => ?_
    cases e
    exact ih
end
section
variable {X : Cx}
/-- sum(..) of ints: val j, the item j -/
def tSumX (P : Addr) (q : Str) (wi : TI) (g : TG) (tt : TT) (te : TE) (vs : List Nat) : TE := fun σ H Q => wi σ H fun J H1 => TabS H1 P q ∧ ∀ H2, Grow P q H1 H2 → ∃ (N : Nat) (val : Nat → Int) (Wt : Nat → Nat → Nat → Hp → Prop), (∃ r, Wt 0 r 0 H2) ∧
  Turns J g tt te σ vs Wt (ydS val Wt) (fun j H => Q (.int (preSum val j)) H) N
variable {c P : Addr} {elt iter tg : Expr} {ifs : List Expr} {p pos gpos : Pos} {scope : Scope} {own : List (Str × Nat)} {wi : TI} {g : TG} {tt : TT} {te : TE} {k : Nat}
theorem pe_sumX (hr : Room (k + 1) X.A) (hg : Gl X "sum") (hm : X.mg "sum" = none) (hb : bootBuiltins "sum" = some (.builtin "sum")) (TB : GxR.TabB X.base X.mg c P) (hcode : X.env.code = .ref c) (S : GenN X.N X.env.scope scope own) (hN : X.N.Nodup) (hi : PI X tg iter wi)
    (hgt : ∀ (B : Around) (s : Shared) (H : Hp) (C : Addr) (code : Value) (fp : List Addr) (pn : List (Addr × Obj)), PG (gCx X B s H scope C code fp pn) tg g) (ht : ∀ (B : Around) (s : Shared) (H : Hp) (C : Addr) (code : Value) (fp : List Addr) (pn : List (Addr × Obj)), PTs (gCx X B s H scope C code fp pn) ifs tt)
    (he : ∀ (B : Around) (s : Shared) (H : Hp) (C : Addr) (code : Value) (fp : List Addr) (pn : List (Addr × Obj)), Room k (B.deeper (gEnv X scope C code)) → PE (gCx X B s H scope C code fp pn) elt te) (hs : ∀ v, genFold iter X.env v = pure v := by intro _; rfl)
    (hst : starEach [.GeneratorExp elt [⟨tg, iter, ifs, 0⟩] scope gpos] X.env = (false, eval (.GeneratorExp elt [⟨tg, iter, ifs, 0⟩] scope gpos) X.env) :: starEach [] X.env := by rfl) :
    PE X (.Call (.Name "sum" p) [.GeneratorExp elt [⟨tg, iter, ifs, 0⟩] scope gpos] [] pos) (tSumX P (X.env.qual ++ "<genexpr>") wi g tt te (own.map (·.2))) := by
  constructor
  intro pins s σ H Q I h
  apply wpAny_Call_Name_kw
  apply ld_blt I hg hm hb
  apply PyProof.Rows.callWith_builtin1 _ hst (by rfl)
  rw [hst]
  show wpAny _ _ (spliced ((false, eval (.GeneratorExp elt [⟨tg, iter, ifs, 0⟩] scope gpos) X.env) :: backTo pos (starEach [] X.env))) _ _ s
  apply Calls.spliced_cons
  refine gen_born (own := own) (by have := hr.dp; omega) TB hcode S hi hs I h (fun J H1 z => z.1) fun J H1 H2 s4 s5 fp it tn code a go g' z gr bn => ?_
  obtain ⟨N, val, Wt, ⟨r, w⟩, turn⟩ := z.2 H2 gr
  apply Calls.spliced_nil
  have hrB : Room k (X.A.in1.in1.deeper (gEnv X scope s4.heap.objs.size code)) := ⟨hr.hd, by have := hr.dp; show X.A.depth + 1 + 3 * k + 5 < _; omega, by have := hr.un; show X.A.units + 1 + 1 + 3 + 16 * k + 200 < _; omega⟩
  have hss : ∀ d ∈ [s5.heap.objs.size], s5.heap.objs.size ≤ d := fun d hd => by rw [List.mem_singleton.mp hd]; exact Nat.le_refl _
  have G := bn.gen (B := X.A.in1.in1) S hss (hgt _ _ _ _ _ _ _) (ht _ _ _ _ _ _ _) (he _ _ _ _ _ _ _ hrB)
  refine call_function_tree F.kind_sum F.plain_sum F.entry_sum (F.args_sum1 _) ?_
  unfold Builtin.«sum»
  simp only [List.length_cons, List.length_nil]
  rw [if_neg (by decide)]
  refine wpAny_bind (wpAny_of_eq (show Builtin.Builtins.bindParams "sum" ["start"] 0 { } = pure [none] from rfl) ?_)
  refine wpAny_bind (wpAny_pyIter_gen (bn.gn _ bn.ga) ?_)
  refine wpAny_bind (wpAny_mkInt ?_)
  refine wpAny_bind (wpAny_pure ?_)
  simp only [List.forIn_cons, List.forIn_nil]
  refine wpAny_bind (wpAny_bind (wpAny_bind (wpAny_isInstance (T := "int") (b := false) (typeIs_int _ _ _) PySem.sub_int_str ?_)))
  simp only [Bool.false_eq_true, if_false]
  refine wpAny_pure (wpAny_bind (wpAny_bind (wpAny_isInstance (T := "int") (b := false) (typeIs_int _ _ _) PySem.sub_int_bytes ?_)))
  simp only [Bool.false_eq_true, if_false]
  refine wpAny_pure (wpAny_bind (wpAny_bind (wpAny_isInstance (T := "int") (b := false) (typeIs_int _ _ _) PySem.sub_int_bytearray ?_)))
  simp only [Bool.false_eq_true, if_false]
  refine wpAny_pure (wpAny_pure ?_)
  refine wpAny_bind (wpAny_newObj_type ?_)
  have kz : ∀ tk : Nat, Kept [s5.heap.objs.size] s5 { s5 with toks := tk, heap := s5.heap.push { cls := .type "list", data := .seq #[.int 0 s5.toks] } } := fun tk =>
    ⟨rfl, bn.bare, fun b o _ e => Heap.get?_push_of_some _ e, fun b hb => by
      rw [List.mem_singleton.mp hb]
      exact ⟨_, Heap.get?_push_size _ rfl, fun v z => by cases z⟩⟩
  obtain ⟨ga, sl⟩ := bn.asleep (B := X.A.in1.in1) S hN hr.hd (show X.A.in1.in1.frames = some X.stack from I.ok.frames) G turn w hss (kz (s5.toks + 1)) rfl
  refine wpAny_pure ⟨plainId_quiet F.plain_sum_loop _, sum_draws (val := val) (N := N) (g := g') (Fin := fun i H => Q (.int i) H) (S := s5.heap.objs.size) hr.hd (by have := hr.dp; omega) bn.T G.M (fun e => bn.gn _ (e (a, go) (by simp))) (fun j t H' s' I' q => ?_) N _ H2 0 s5.toks 0 0 (.inl rfl) (by omega) ga.inv (ga.ss _ (List.mem_singleton.mpr rfl)).1 (Heap.get?_push_size _ rfl) sl⟩
  exact ⟨.int _, H', bn.back I', ⟨t, rfl⟩, q⟩
end
end BK
set_option Elab.async false
set_option linter.all false
set_option maxRecDepth 100000
set_option maxHeartbeats 4000000
/-! KitV: the forms one uses: over n turns; over a tuple. -/
namespace BK
open PySem PySem.Spec PyProof.Rows L2 LamX
section
variable {J : It} {g : TG} {te : TE} {σ : L2.St} {vs : List Nat} {H2 : Hp}
theorem all_n {b0 : Bool} {Fin : Bool → Hp → Prop} (n : Nat) (Pv : Nat → Hp → Prop) (h0 : Pv 0 H2) (hgo : ∀ i H, i < n → Pv i H → J.go i H) (hst : ∀ H, Pv n H → J.stop n H)
    (hs : ∀ i H x H' (Po : V → Hp → Prop), i < n → Pv i H → J.yld i H x H' → (∀ b H4, (if b = b0 then Pv (i + 1) H4 else Fin b H4) → Po (.bl b) H4) → g x (wipe σ vs) H' fun σ2 H2 => wipe σ2 vs = wipe σ vs ∧ te σ2 H2 Po)
    (hd : ∀ H, Pv n H → Fin b0 H) : ∃ (N : Nat) (Wt : Nat → Nat → Nat → Hp → Prop), (∃ r, Wt 0 r 0 H2) ∧ Turns J g tYes te σ vs Wt (ydB b0 Wt Fin) (fun _ H => Fin b0 H) N := by
  refine ⟨n, fun i r j H => r = n - i ∧ j = i ∧ i ≤ n ∧ Pv i H, ⟨n, by simp, rfl, Nat.zero_le _, h0⟩, ?_⟩
  rintro i r j H ⟨rfl, rfl, hi, p⟩
  by_cases hlt : j < n
  · refine .inr ⟨hgo j H hlt p, fun x H' y => ?_⟩
    refine hs j H x H' (fun y H4 => j < n ∧ ydB b0 (fun i r j H => r = n - i ∧ j = i ∧ i ≤ n ∧ Pv i H) Fin j (n - j) j y H4) hlt p y fun b H4 q => ⟨hlt, b, rfl, ?_⟩
    by_cases hb : b = b0
    · rw [if_pos hb] at q ⊢
      exact ⟨n - (j + 1), by omega, rfl, rfl, hlt, q⟩
    · rw [if_neg hb] at q ⊢
      exact q
  · have e : j = n := by omega
    subst e
    exact .inl ⟨hst H p, hd H p⟩
theorem sum_n {Fin : Int → Hp → Prop} (n : Nat) (val : Nat → Int) (Pv : Nat → Hp → Prop) (h0 : Pv 0 H2) (hgo : ∀ i H, i < n → Pv i H → J.go i H) (hst : ∀ H, Pv n H → J.stop n H)
    (hs : ∀ i H x H' (Po : V → Hp → Prop), i < n → Pv i H → J.yld i H x H' → (∀ H4, Pv (i + 1) H4 → Po (.int (val i)) H4) → g x (wipe σ vs) H' fun σ2 H2 => wipe σ2 vs = wipe σ vs ∧ te σ2 H2 Po)
    (hd : ∀ H, Pv n H → Fin (preSum val n) H) : ∃ (N : Nat) (val : Nat → Int) (Wt : Nat → Nat → Nat → Hp → Prop), (∃ r, Wt 0 r 0 H2) ∧ Turns J g tYes te σ vs Wt (ydS val Wt) (fun j H => Fin (preSum val j) H) N := by
  refine ⟨n, val, fun i r j H => r = n - i ∧ j = i ∧ i ≤ n ∧ Pv i H, ⟨n, by simp, rfl, Nat.zero_le _, h0⟩, ?_⟩
  rintro i r j H ⟨rfl, rfl, hi, p⟩
  by_cases hlt : j < n
  · refine .inr ⟨hgo j H hlt p, fun x H' y => ?_⟩
    exact hs j H x H' (fun y H4 => j < n ∧ ydS val (fun i r j H => r = n - i ∧ j = i ∧ i ≤ n ∧ Pv i H) j (n - j) j y H4) hlt p y fun H4 q => ⟨hlt, rfl, n - (j + 1), by omega, rfl, rfl, hlt, q⟩
  · have e : j = n := by omega
    subst e
    exact .inl ⟨hst H p, hd H p⟩
end
section
variable {K : PySem.W.Frag} {a : Addr} {xs : List V} {g : TG} {te : TE} {σ : L2.St} {vs : List Nat} {H2 : Hp}
theorem all_tup {b0 : Bool} {Fin : Bool → Hp → Prop} (Pv : Nat → Hp → Prop) (h0 : Pv 0 H2) (hl : ∀ i H, i ≤ xs.length → Pv i H → SqT K H a xs)
    (hs : ∀ i x H (Po : V → Hp → Prop), xs[i]? = some x → Pv i H → (∀ b H4, (if b = b0 then Pv (i + 1) H4 else Fin b H4) → Po (.bl b) H4) → g x (wipe σ vs) H fun σ2 H2 => wipe σ2 vs = wipe σ vs ∧ te σ2 H2 Po)
    (hd : ∀ H, Pv xs.length H → Fin b0 H) : ∃ (N : Nat) (Wt : Nat → Nat → Nat → Hp → Prop), (∃ r, Wt 0 r 0 H2) ∧ Turns (Itt K a) g tYes te σ vs Wt (ydB b0 Wt Fin) (fun _ H => Fin b0 H) N := by
  refine all_n xs.length Pv h0 (fun i H hi p => ⟨xs, xs[i], hl i H (Nat.le_of_lt hi) p, by simp [hi]⟩) (fun H p => ⟨xs, hl _ H (Nat.le_refl _) p, Nat.le_refl _⟩) (fun i H x H' Po hi p y k => ?_) hd
  obtain ⟨e, y⟩ := y
  subst e
  exact hs i x _ Po (y xs (hl i _ (Nat.le_of_lt hi) p)) p k
theorem sum_tup {Fin : Int → Hp → Prop} (val : Nat → Int) (Pv : Nat → Hp → Prop) (h0 : Pv 0 H2) (hl : ∀ i H, i ≤ xs.length → Pv i H → SqT K H a xs)
    (hs : ∀ i x H (Po : V → Hp → Prop), xs[i]? = some x → Pv i H → (∀ H4, Pv (i + 1) H4 → Po (.int (val i)) H4) → g x (wipe σ vs) H fun σ2 H2 => wipe σ2 vs = wipe σ vs ∧ te σ2 H2 Po)
    (hd : ∀ H, Pv xs.length H → Fin (preSum val xs.length) H) : ∃ (N : Nat) (val : Nat → Int) (Wt : Nat → Nat → Nat → Hp → Prop), (∃ r, Wt 0 r 0 H2) ∧ Turns (Itt K a) g tYes te σ vs Wt (ydS val Wt) (fun j H => Fin (preSum val j) H) N := by
  refine sum_n xs.length val Pv h0 (fun i H hi p => ⟨xs, xs[i], hl i H (Nat.le_of_lt hi) p, by simp [hi]⟩) (fun H p => ⟨xs, hl _ H (Nat.le_refl _) p, Nat.le_refl _⟩) (fun i H x H' Po hi p y k => ?_) hd
  obtain ⟨e, y⟩ := y
  subst e
  exact hs i x _ Po (y xs (hl i _ (Nat.le_of_lt hi) p)) p k
end
end BK
set_option Elab.async false
set_option linter.all false
set_option maxRecDepth 100000
set_option maxHeartbeats 4000000
/-! KM: sums over choices: the mathematics. -/
namespace BK
open PySem PySem.Spec PyProof.Rows L2
/-! ### least and greatest -/
def mnL : List Int → Int
  | [] => 0
  | w :: ws => ws.foldl (fun a x => if x < a then x else a) w
def mxL : List Int → Int
  | [] => 0
  | w :: ws => ws.foldl (fun a x => if x > a then x else a) w
theorem foldmn : ∀ (ws : List Int) (w : Int), (ws.foldl (fun a x => if x < a then x else a) w = w ∨ ws.foldl (fun a x => if x < a then x else a) w ∈ ws) ∧ ws.foldl (fun a x => if x < a then x else a) w ≤ w ∧ ∀ x ∈ ws, ws.foldl (fun a x => if x < a then x else a) w ≤ x
  | [], w => ⟨.inl rfl, Int.le_refl _, fun x hx => by cases hx⟩
  | y :: ws, w => by
    obtain ⟨h1, h2, h3⟩ := foldmn ws (if y < w then y else w)
    simp only [List.foldl_cons]
    refine ⟨?_, ?_, fun x hx => ?_⟩
    · rcases h1 with h1 | h1
      · rw [h1]
        split
        · exact .inr List.mem_cons_self
        · exact .inl rfl
      · exact .inr (List.mem_cons_of_mem _ h1)
    · refine Int.le_trans h2 ?_
      split <;> omega
    · rcases List.mem_cons.mp hx with e | e
      · subst e
        refine Int.le_trans h2 ?_
        split <;> omega
      · exact h3 x e
theorem foldmx : ∀ (ws : List Int) (w : Int), (ws.foldl (fun a x => if x > a then x else a) w = w ∨ ws.foldl (fun a x => if x > a then x else a) w ∈ ws) ∧ w ≤ ws.foldl (fun a x => if x > a then x else a) w ∧ ∀ x ∈ ws, x ≤ ws.foldl (fun a x => if x > a then x else a) w
  | [], w => ⟨.inl rfl, Int.le_refl _, fun x hx => by cases hx⟩
  | y :: ws, w => by
    obtain ⟨h1, h2, h3⟩ := foldmx ws (if y > w then y else w)
    simp only [List.foldl_cons]
    refine ⟨?_, ?_, fun x hx => ?_⟩
    · rcases h1 with h1 | h1
      · rw [h1]
        split
        · exact .inr List.mem_cons_self
        · exact .inl rfl
      · exact .inr (List.mem_cons_of_mem _ h1)
    · refine Int.le_trans ?_ h2
      split <;> omega
    · rcases List.mem_cons.mp hx with e | e
      · subst e
        refine Int.le_trans ?_ h2
        split <;> omega
      · exact h3 x e
theorem mnL_mem {ws : List Int} (h : ws ≠ []) : mnL ws ∈ ws := by
  cases ws with
  | nil => exact absurd rfl h
  | cons w ws =>
    rcases (foldmn ws w).1 with e | e
    · simp only [mnL]
      rw [e]
      exact List.mem_cons_self
    · exact List.mem_cons_of_mem _ e
theorem mnL_le {ws : List Int} {x : Int} (h : x ∈ ws) : mnL ws ≤ x := by
  cases ws with
  | nil => cases h
  | cons w ws =>
    rcases List.mem_cons.mp h with e | e
    · subst e
      exact (foldmn ws x).2.1
    · exact (foldmn ws w).2.2 x e
theorem mxL_mem {ws : List Int} (h : ws ≠ []) : mxL ws ∈ ws := by
  cases ws with
  | nil => exact absurd rfl h
  | cons w ws =>
    rcases (foldmx ws w).1 with e | e
    · simp only [mxL]
      rw [e]
      exact List.mem_cons_self
    · exact List.mem_cons_of_mem _ e
theorem le_mxL {ws : List Int} {x : Int} (h : x ∈ ws) : x ≤ mxL ws := by
  cases ws with
  | nil => cases h
  | cons w ws =>
    rcases List.mem_cons.mp h with e | e
    · subst e
      exact (foldmx ws x).2.1
    · exact (foldmx ws w).2.2 x e
theorem mnL_eq {ws : List Int} {m : Int} (h : m ∈ ws) (l : ∀ x ∈ ws, m ≤ x) : m = mnL ws := by
  have ne : ws ≠ [] := fun z => by rw [z] at h; cases h
  have h1 := mnL_le h
  have h2 := l _ (mnL_mem ne)
  omega
theorem mxL_eq {ws : List Int} {m : Int} (h : m ∈ ws) (l : ∀ x ∈ ws, x ≤ m) : m = mxL ws := by
  have ne : ws ≠ [] := fun z => by rw [z] at h; cases h
  have h1 := le_mxL h
  have h2 := l _ (mxL_mem ne)
  omega
theorem mn_le_mx {ws : List Int} : mnL ws ≤ mxL ws := by
  cases ws with
  | nil => exact Int.le_refl _
  | cons w ws => exact Int.le_trans (mnL_le List.mem_cons_self) (le_mxL List.mem_cons_self)
theorem mnL_sub {ws : List Int} (h : ws ≠ []) (d : Int) : mnL (ws.map (· - d)) = mnL ws - d := by
  refine (mnL_eq ?_ fun x hx => ?_).symm
  · exact List.mem_map.mpr ⟨_, mnL_mem h, rfl⟩
  · obtain ⟨y, hy, rfl⟩ := List.mem_map.mp hx
    have := mnL_le hy
    omega
theorem mxL_sub {ws : List Int} (h : ws ≠ []) (d : Int) : mxL (ws.map (· - d)) = mxL ws - d := by
  refine (mxL_eq ?_ fun x hx => ?_).symm
  · exact List.mem_map.mpr ⟨_, mxL_mem h, rfl⟩
  · obtain ⟨y, hy, rfl⟩ := List.mem_map.mp hx
    have := le_mxL hy
    omega
/-! ### terms, rows -/
abbrev Trm := Nat × List Int
/-- ascending choices from k on, as many weights as the choice has values -/
def TmOk (ss : List Nat) : Nat → List Trm → Prop
  | _, [] => True
  | k, t :: r => k ≤ t.1 ∧ (∃ s, ss[t.1]? = some s ∧ t.2.length = s ∧ 1 ≤ s) ∧ TmOk ss (t.1 + 1) r
def RowOk (ss r : List Nat) : Prop := r.length = ss.length ∧ ∀ (i v : Nat), r[i]? = some v → ∃ s : Nat, ss[i]? = some s ∧ v < s
theorem TmOk.mono {ss : List Nat} : ∀ {ts : List Trm} {k j : Nat}, j ≤ k → TmOk ss k ts → TmOk ss j ts
  | [], _, _, _, _ => True.intro
  | _ :: _, _, _, h, ⟨a, b, c⟩ => ⟨Nat.le_trans h a, b, c⟩
theorem TmOk.lt {ss : List Nat} : ∀ {ts : List Trm} {k : Nat} {t : Trm}, TmOk ss k ts → t ∈ ts → k ≤ t.1 ∧ ∃ s, ss[t.1]? = some s ∧ t.2.length = s ∧ 1 ≤ s
  | u :: r, k, t, ⟨a, b, c⟩, h => by
    rcases List.mem_cons.mp h with e | e
    · subst e
      exact ⟨a, b⟩
    · obtain ⟨p, q⟩ := TmOk.lt c e
      exact ⟨by omega, q⟩
/-- what a row's values weigh -/
def wt (r : List Nat) (ts : List Trm) : Int := (ts.map fun t => t.2.getD (r.getD t.1 0) 0).sum
theorem wt_cons (r : List Nat) (t : Trm) (ts : List Trm) : wt r (t :: ts) = t.2.getD (r.getD t.1 0) 0 + wt r ts := by simp [wt]
theorem row_at {ss r : List Nat} {c s : Nat} (h : RowOk ss r) (hs : ss[c]? = some s) : ∃ v, r[c]? = some v ∧ r.getD c 0 = v ∧ v < s := by
  have lc := (List.getElem?_eq_some_iff.mp hs).1
  have lr : c < r.length := by rw [h.1]; exact lc
  have e : r[c]? = some r[c] := List.getElem?_eq_getElem lr
  obtain ⟨s', e1, lt⟩ := h.2 c _ e
  rw [hs] at e1
  cases e1
  exact ⟨r[c], e, by rw [List.getD_eq_getElem?_getD, e]; rfl, lt⟩
/-! ### the form -/
def mnS (ts : List Trm) : Int := (ts.map fun t => mnL t.2).sum
def keep1 (t : Trm) : Option Trm := if mxL t.2 > mnL t.2 then some (t.1, t.2.map (· - mnL t.2)) else none
def formK (ts : List Trm) : List Trm := ts.filterMap keep1
def formOf (ts : List Trm) (b : Int) : List Trm × Int := if b - mnS ts > 0 then (formK ts, b - mnS ts) else ([], 0)
structure SumOk (ss : List Nat) (s : List Trm × Int) : Prop where
  tm : TmOk ss 0 s.1
  pos : 0 ≤ s.2
  zero : s.2 = 0 → s.1 = []
  all : ∀ t ∈ s.1, mnL t.2 = 0 ∧ 0 < mxL t.2
theorem ne_of_len {ws : List Int} {s : Nat} (h : ws.length = s) (l : 1 ≤ s) : ws ≠ [] := fun z => by
  rw [z] at h
  simp at h
  omega
theorem formK_ok {ss : List Nat} : ∀ {ts : List Trm} {k : Nat}, TmOk ss k ts → TmOk ss k (formK ts) ∧ ∀ t ∈ formK ts, mnL t.2 = 0 ∧ 0 < mxL t.2
  | [], _, _ => ⟨True.intro, fun t h => by cases h⟩
  | t :: r, k, ⟨a, ⟨s, b1, b2, b3⟩, c⟩ => by
    obtain ⟨h1, h2⟩ := formK_ok c
    have ne := ne_of_len b2 b3
    unfold formK
    rw [List.filterMap_cons]
    unfold keep1
    by_cases g : mxL t.2 > mnL t.2
    · rw [if_pos g]
      refine ⟨⟨a, ⟨s, b1, by simp [b2], b3⟩, h1⟩, fun u hu => ?_⟩
      rcases List.mem_cons.mp hu with e | e
      · subst e
        show mnL (t.2.map _) = 0 ∧ 0 < mxL (t.2.map _)
        rw [mnL_sub ne, mxL_sub ne]
        omega
      · exact h2 u e
    · rw [if_neg g]
      exact ⟨h1.mono (by omega), h2⟩
theorem form_ok {ss : List Nat} {ts : List Trm} (b : Int) (h : TmOk ss 0 ts) : SumOk ss (formOf ts b) := by
  unfold formOf
  obtain ⟨h1, h2⟩ := formK_ok h
  split
  · exact ⟨h1, by show 0 ≤ b - mnS ts; omega, fun z => by have : b - mnS ts = 0 := z; omega, h2⟩
  · exact ⟨True.intro, Int.le_refl _, fun _ => rfl, fun t ht => by cases ht⟩
theorem wt_form {ss r : List Nat} (hr : RowOk ss r) : ∀ {ts : List Trm} {k : Nat}, TmOk ss k ts → wt r (formK ts) = wt r ts - mnS ts
  | [], _, _ => rfl
  | t :: ts, k, ⟨a, ⟨s, b1, b2, b3⟩, c⟩ => by
    have ih := wt_form hr c
    obtain ⟨v, e1, e2, lt⟩ := row_at hr b1
    have lv : v < t.2.length := by omega
    have ew : t.2.getD v 0 = t.2[v] := by rw [List.getD_eq_getElem?_getD, List.getElem?_eq_getElem lv]; rfl
    have m1 := mnL_le (List.getElem_mem lv)
    have m2 := le_mxL (List.getElem_mem lv)
    have es : mnS (t :: ts) = mnL t.2 + mnS ts := by simp [mnS]
    have ef : formK (t :: ts) = (match keep1 t with | some u => u :: formK ts | none => formK ts) := by
      unfold formK
      rw [List.filterMap_cons]
      cases keep1 t <;> rfl
    rw [ef, wt_cons, es, e2, ew]
    unfold keep1
    by_cases g : mxL t.2 > mnL t.2
    · rw [if_pos g]
      show wt r ((t.1, t.2.map (· - mnL t.2)) :: formK ts) = _
      rw [wt_cons, ih]
      show (t.2.map (· - mnL t.2)).getD (r.getD t.1 0) 0 + _ = _
      rw [e2, List.getD_eq_getElem?_getD, List.getElem?_map, List.getElem?_eq_getElem lv]
      show t.2[v] - mnL t.2 + _ = _
      omega
    · rw [if_neg g]
      show wt r (formK ts) = _
      rw [ih]
      omega
theorem wt_ge {ss r : List Nat} (hr : RowOk ss r) : ∀ {ts : List Trm} {k : Nat}, TmOk ss k ts → mnS ts ≤ wt r ts
  | [], _, _ => Int.le_refl _
  | t :: ts, k, ⟨a, ⟨s, b1, b2, b3⟩, c⟩ => by
    have ih := wt_ge hr c
    obtain ⟨v, e1, e2, lt⟩ := row_at hr b1
    have lv : v < t.2.length := by omega
    have ew : t.2.getD v 0 = t.2[v] := by rw [List.getD_eq_getElem?_getD, List.getElem?_eq_getElem lv]; rfl
    have m1 := mnL_le (List.getElem_mem lv)
    have es : mnS (t :: ts) = mnL t.2 + mnS ts := by simp [mnS]
    rw [wt_cons, es, e2, ew]
    omega
theorem wt_nil (r : List Nat) : wt r [] = 0 := rfl
/-- a sum in its form stays -/
theorem formK_self : ∀ {ts : List Trm}, (∀ t ∈ ts, mnL t.2 = 0 ∧ 0 < mxL t.2) → formK ts = ts ∧ mnS ts = 0
  | [], _ => ⟨rfl, rfl⟩
  | t :: ts, h => by
    obtain ⟨h1, h2⟩ := formK_self fun u hu => h u (List.mem_cons_of_mem _ hu)
    obtain ⟨a, b⟩ := h t List.mem_cons_self
    have e : keep1 t = some t := by
      unfold keep1
      rw [if_pos (by omega), a]
      have : (fun x : Int => x - 0) = id := by funext x; simp
      rw [this, List.map_id]
    refine ⟨?_, by simp only [mnS, List.map_cons, List.sum_cons] at h2 ⊢; omega⟩
    unfold formK
    rw [List.filterMap_cons, e]
    exact congrArg (t :: ·) h1
theorem form_self {ss : List Nat} {s : List Trm × Int} (h : SumOk ss s) : formOf s.1 s.2 = s := by
  obtain ⟨h1, h2⟩ := formK_self h.all
  unfold formOf
  rw [h1, h2]
  have := h.pos
  by_cases z : s.2 = 0
  · rw [if_neg (by omega)]
    have := h.zero z
    obtain ⟨a, b⟩ := s
    simp only at this z ⊢
    rw [this, z]
  · rw [if_pos (by omega)]
    obtain ⟨a, b⟩ := s
    simp
/-- each choice moved by a number -/
def mvd : List Trm → List Int → List Trm
  | t :: ts, d :: ds => (t.1, t.2.map (· + d)) :: mvd ts ds
  | _, _ => []
theorem map_add_sub (ws : List Int) (d : Int) : ws.map (· + d) = ws.map (· - (-d)) := by
  refine List.map_congr_left fun x _ => ?_
  omega
theorem mvd_ok {ss : List Nat} : ∀ {ts : List Trm} {ds : List Int} {k : Nat}, ds.length = ts.length → TmOk ss k ts → TmOk ss k (mvd ts ds)
  | [], ds, _, _, _ => by cases ds <;> exact True.intro
  | t :: ts, [], _, h, _ => by simp at h
  | t :: ts, d :: ds, k, h, ⟨a, ⟨s, b1, b2, b3⟩, c⟩ => ⟨a, ⟨s, b1, by simp [b2], b3⟩, mvd_ok (by simpa using h) c⟩
theorem mvd_form {ss : List Nat} : ∀ {ts : List Trm} {ds : List Int} {k : Nat}, ds.length = ts.length → TmOk ss k ts → formK (mvd ts ds) = formK ts ∧ mnS (mvd ts ds) = mnS ts + ds.sum
  | [], [], _, _, _ => ⟨rfl, rfl⟩
  | [], _ :: _, _, h, _ => by simp at h
  | t :: ts, [], _, h, _ => by simp at h
  | t :: ts, d :: ds, k, h, ⟨a, ⟨s, b1, b2, b3⟩, c⟩ => by
    obtain ⟨h1, h2⟩ := mvd_form (ds := ds) (by simpa using h) c
    have ne := ne_of_len b2 b3
    have e1 : mnL (t.2.map (· + d)) = mnL t.2 + d := by rw [map_add_sub, mnL_sub ne]; omega
    have e2 : mxL (t.2.map (· + d)) = mxL t.2 + d := by rw [map_add_sub, mxL_sub ne]; omega
    have ek : keep1 (t.1, t.2.map (· + d)) = keep1 t := by
      unfold keep1
      show (if mxL (t.2.map (· + d)) > mnL (t.2.map (· + d)) then some (t.1, (t.2.map (· + d)).map (· - mnL (t.2.map (· + d)))) else none) = _
      rw [e1, e2]
      by_cases g : mxL t.2 > mnL t.2
      · rw [if_pos g, if_pos (by omega), List.map_map]
        refine congrArg (fun l => some (t.1, l)) (List.map_congr_left fun x _ => ?_)
        show x + d - (mnL t.2 + d) = _
        omega
      · rw [if_neg g, if_neg (by omega)]
    constructor
    · show formK ((t.1, t.2.map (· + d)) :: mvd ts ds) = _
      unfold formK at h1 ⊢
      rw [List.filterMap_cons, List.filterMap_cons, ek]
      cases keep1 t with
      | none => exact h1
      | some u => exact congrArg (u :: ·) h1
    · show mnS ((t.1, t.2.map (· + d)) :: mvd ts ds) = _
      simp only [mnS, List.map_cons, List.sum_cons] at h2 ⊢
      rw [e1, h2]
      omega
theorem form_moved {ss : List Nat} {ts : List Trm} {ds : List Int} (b : Int) (h : ds.length = ts.length) (ok : TmOk ss 0 ts) : formOf (mvd ts ds) (b + ds.sum) = formOf ts b := by
  obtain ⟨h1, h2⟩ := mvd_form h ok
  unfold formOf
  rw [h1, h2]
  have e : b + ds.sum - (mnS ts + ds.sum) = b - mnS ts := by omega
  rw [e]
/-! ### rows -/
def rowsOf (ss : List Nat) : List (List Nat) := ss.foldl (fun acc s => acc.flatMap fun r => (List.range s).map fun v => r ++ [v]) [[]]
theorem rowsOf_snoc (ss : List Nat) (s : Nat) : rowsOf (ss ++ [s]) = (rowsOf ss).flatMap fun r => (List.range s).map fun v => r ++ [v] := by
  unfold rowsOf
  rw [List.foldl_append]
  rfl
theorem take_snoc {α : Type} {l : List α} {k : Nat} {x : α} (h : l[k]? = some x) : l.take (k + 1) = l.take k ++ [x] := by
  rw [List.take_add_one, h]
  rfl
theorem mem_rows (ss : List Nat) : ∀ (n : Nat) (r : List Nat), n ≤ ss.length → (r ∈ rowsOf (ss.take n) ↔ RowOk (ss.take n) r) := by
  intro n
  induction n with
  | zero =>
    intro r _
    simp only [List.take_zero]
    constructor
    · intro h
      have : r = [] := by simpa [rowsOf] using h
      subst this
      exact ⟨rfl, fun i v e => by simp at e⟩
    · intro h
      have : r = [] := List.eq_nil_of_length_eq_zero h.1
      subst this
      simp [rowsOf]
  | succ n ih =>
    intro r hn
    have hs : ss[n]? = some ss[n] := List.getElem?_eq_getElem hn
    have ln : (ss.take n).length = n := by simp; omega
    rw [take_snoc hs, rowsOf_snoc, List.mem_flatMap]
    constructor
    · rintro ⟨r', h1, h2⟩
      obtain ⟨v, h3, rfl⟩ := List.mem_map.mp h2
      have h4 := (ih r' (by omega)).mp h1
      refine ⟨by simp [h4.1]; omega, fun i v' e => ?_⟩
      by_cases hi : i < r'.length
      · rw [List.getElem?_append_left hi] at e
        obtain ⟨s, e1, e2⟩ := h4.2 i v' e
        have : i < (ss.take n).length := by rw [← h4.1]; exact hi
        exact ⟨s, by rw [List.getElem?_append_left this]; exact e1, e2⟩
      · have ei : i = r'.length := by
          have := (List.getElem?_eq_some_iff.mp e).1
          simp at this
          omega
        subst ei
        rw [List.getElem?_append_right (Nat.le_refl _)] at e
        simp at e
        subst e
        refine ⟨ss[n], ?_, List.mem_range.mp h3⟩
        rw [h4.1, List.getElem?_append_right (Nat.le_refl _)]
        simp
    · intro h
      have lr : r.length = n + 1 := by
        have := h.1
        simp at this
        omega
      have ne : r ≠ [] := fun z => by rw [z] at lr; simp at lr
      have er : r = r.take n ++ [r[n]'(by omega)] := by
        have := take_snoc (l := r) (k := n) (x := r[n]'(by omega)) (List.getElem?_eq_getElem (by omega))
        rw [← this, List.take_of_length_le (by omega)]
      refine ⟨r.take n, (ih _ (by omega)).mpr ⟨by simp; omega, fun i v e => ?_⟩, ?_⟩
      · have hi := (List.getElem?_eq_some_iff.mp e).1
        have hi : i < n := by simp at hi; omega
        rw [List.getElem?_take_of_lt hi] at e
        obtain ⟨s, e1, e2⟩ := h.2 i v e
        rw [List.getElem?_append_left (by omega)] at e1
        exact ⟨s, e1, e2⟩
      · obtain ⟨s, e1, e2⟩ := h.2 n (r[n]'(by omega)) (List.getElem?_eq_getElem (by omega))
        rw [List.getElem?_append_right (by omega), ln] at e1
        simp at e1
        subst e1
        exact List.mem_map.mpr ⟨r[n]'(by omega), List.mem_range.mpr e2, er.symm⟩
theorem mem_rowsOf {ss r : List Nat} : r ∈ rowsOf ss ↔ RowOk ss r := by
  have := mem_rows ss ss.length r (Nat.le_refl _)
  rwa [List.take_length] at this
theorem rows_len {ss : List Nat} (h : ∀ s ∈ ss, s ≤ 4) : ∀ n, n ≤ ss.length → (rowsOf (ss.take n)).length ≤ 4 ^ n := by
  intro n
  induction n with
  | zero => intro _; simp [rowsOf]
  | succ n ih =>
    intro hn
    have hs : ss[n]? = some ss[n] := List.getElem?_eq_getElem hn
    have i1 := ih (by omega)
    have s4 := h ss[n] (List.getElem_mem hn)
    rw [take_snoc hs, rowsOf_snoc, List.length_flatMap]
    have : ∀ l : List (List Nat), (l.map fun r => ((List.range ss[n]).map fun v => r ++ [v]).length).sum = l.length * ss[n] := by
      intro l
      induction l with
      | nil => simp
      | cons x xs ihx =>
        rw [List.map_cons, List.sum_cons, ihx]
        simp [Nat.add_mul, Nat.add_comm]
    rw [this, Nat.pow_succ]
    exact Nat.mul_le_mul i1 s4
/-! ### one form -/
theorem wt_nonneg {r : List Nat} : ∀ {ts : List Trm}, (∀ t ∈ ts, ∀ x ∈ t.2, 0 ≤ x) → 0 ≤ wt r ts
  | [], _ => Int.le_refl _
  | t :: ts, h => by
    have ih := wt_nonneg (r := r) fun u hu => h u (List.mem_cons_of_mem _ hu)
    rw [wt_cons]
    have : 0 ≤ t.2.getD (r.getD t.1 0) 0 := by
      rw [List.getD_eq_getElem?_getD]
      cases e : t.2[r.getD t.1 0]? with
      | none => exact Int.le_refl _
      | some x => exact h t List.mem_cons_self x (List.mem_of_getElem? e)
    omega
/-- the weight of the value v at the choice c -/
def at1 (ts : List Trm) (c v : Nat) : Int := (ts.map fun t => if t.1 = c then t.2.getD v 0 else 0).sum
theorem at1_cons (t : Trm) (ts : List Trm) (c v : Nat) : at1 (t :: ts) c v = (if t.1 = c then t.2.getD v 0 else 0) + at1 ts c v := by
  simp [at1]
theorem at1_none {ss : List Nat} {c v : Nat} : ∀ {ts : List Trm} {k : Nat}, c < k → TmOk ss k ts → at1 ts c v = 0
  | [], _, _, _ => rfl
  | t :: ts, k, h, ⟨a, _, d⟩ => by
    have := at1_none (c := c) (v := v) (k := t.1 + 1) (by omega) d
    rw [at1_cons, if_neg (by omega), this]
    rfl
/-- a row changed at one choice -/
theorem wt_set {ss : List Nat} {r : List Nat} {c v : Nat} (hc : c < r.length) : ∀ {ts : List Trm} {k : Nat}, TmOk ss k ts → wt (r.set c v) ts - at1 ts c v = wt r ts - at1 ts c (r.getD c 0)
  | [], _, _ => rfl
  | t :: ts, k, ⟨a, _, d⟩ => by
    have ih := wt_set (c := c) (v := v) hc d
    rw [wt_cons, wt_cons, at1_cons, at1_cons]
    by_cases e : t.1 = c
    · subst e
      rw [if_pos rfl, if_pos rfl]
      have : (r.set t.1 v).getD t.1 0 = v := by rw [List.getD_eq_getElem?_getD, List.getElem?_set_self hc]; rfl
      rw [this]
      omega
    · rw [if_neg e, if_neg e]
      have : (r.set c v).getD t.1 0 = r.getD t.1 0 := by rw [List.getD_eq_getElem?_getD, List.getElem?_set_ne (Ne.symm e), ← List.getD_eq_getElem?_getD]
      rw [this]
      omega
theorem row_set {ss r : List Nat} {c v s : Nat} (h : RowOk ss r) (hs : ss[c]? = some s) (lt : v < s) : RowOk ss (r.set c v) := by
  refine ⟨by simp [h.1], fun i w e => ?_⟩
  by_cases hi : c = i
  · subst hi
    have lc : c < r.length := by
      have := (List.getElem?_eq_some_iff.mp e).1
      simpa using this
    rw [List.getElem?_set_self lc] at e
    cases e
    exact ⟨s, hs, lt⟩
  · rw [List.getElem?_set_ne hi] at e
    exact h.2 i w e
theorem row_zero {ss : List Nat} (h : ∀ s ∈ ss, 1 ≤ s) : RowOk ss (ss.map fun _ => 0) := by
  refine ⟨by simp, fun i v e => ?_⟩
  rw [List.getElem?_map] at e
  cases q : ss[i]? with
  | none => rw [q] at e; cases e
  | some s =>
    rw [q] at e
    cases e
    exact ⟨s, rfl, h s (List.mem_of_getElem? q)⟩
/-- the weights at a choice are the same but for a number, so the same -/
theorem at1_same {ss : List Nat} (h1 : ∀ s ∈ ss, 1 ≤ s) {a b : List Trm × Int} (ha : SumOk ss a) (hb : SumOk ss b) (eq : ∀ r, RowOk ss r → wt r a.1 - a.2 = wt r b.1 - b.2) (c s : Nat) (hs : ss[c]? = some s) :
    ∀ v w, v < s → w < s → at1 a.1 c v - at1 b.1 c v = at1 a.1 c w - at1 b.1 c w := by
  intro v w lv lw
  have r0 := row_zero h1
  have lc : c < (ss.map fun _ => 0).length := by
    have := (List.getElem?_eq_some_iff.mp hs).1
    simpa using this
  have e1 := wt_set (v := v) lc ha.tm
  have e2 := wt_set (v := v) lc hb.tm
  have e3 := wt_set (v := w) lc ha.tm
  have e4 := wt_set (v := w) lc hb.tm
  have q1 := eq _ (row_set r0 hs lv)
  have q2 := eq _ (row_set r0 hs lw)
  omega
/-- the weights at a choice: none, or the ones of its term -/
theorem at1_of {ss : List Nat} {c : Nat} : ∀ {ts : List Trm} {k : Nat}, TmOk ss k ts → (∀ v, at1 ts c v = 0) ∧ (∀ t ∈ ts, t.1 ≠ c) ∨ ∃ t ∈ ts, t.1 = c ∧ ∀ v, at1 ts c v = t.2.getD v 0
  | [], _, _ => .inl ⟨fun _ => rfl, fun t h => by cases h⟩
  | t :: ts, k, ⟨a, b, d⟩ => by
    by_cases e : t.1 = c
    · refine .inr ⟨t, List.mem_cons_self, e, fun v => ?_⟩
      have := at1_none (v := v) (c := c) (by omega) d
      rw [at1_cons, if_pos e, this]
      omega
    · rcases at1_of (c := c) d with ⟨h1, h2⟩ | ⟨u, h1, h2, h3⟩
      · refine .inl ⟨fun v => ?_, fun u hu => ?_⟩
        · have := h1 v
          rw [at1_cons, if_neg e, this]
          rfl
        · rcases List.mem_cons.mp hu with q | q
          · rw [q]; exact e
          · exact h2 u q
      · refine .inr ⟨u, List.mem_cons_of_mem _ h1, h2, fun v => ?_⟩
        have := h3 v
        rw [at1_cons, if_neg e]
        omega
theorem getD_mem {ws : List Int} {v : Nat} (h : v < ws.length) : ws.getD v 0 ∈ ws := by
  rw [List.getD_eq_getElem?_getD, List.getElem?_eq_getElem h]
  exact List.getElem_mem h
theorem mem_getD {ws : List Int} {x : Int} (h : x ∈ ws) : ∃ v, v < ws.length ∧ ws.getD v 0 = x := by
  obtain ⟨v, l, e⟩ := List.getElem_of_mem h
  exact ⟨v, l, by rw [List.getD_eq_getElem?_getD, List.getElem?_eq_getElem l]; exact e⟩
/-- a sum's weights at a choice are never below 0, and 0 at some value -/
theorem at1_low {ss : List Nat} {a : List Trm × Int} (ha : SumOk ss a) {c s : Nat} (hs : ss[c]? = some s) (h1 : 1 ≤ s) : (∀ v, v < s → 0 ≤ at1 a.1 c v) ∧ ∃ v, v < s ∧ at1 a.1 c v = 0 := by
  rcases at1_of (c := c) ha.tm with ⟨z, _⟩ | ⟨t, m, e, z⟩
  · exact ⟨fun v _ => by rw [z]; exact Int.le_refl _, 0, by omega, z 0⟩
  · obtain ⟨_, s', e1, e2, e3⟩ := ha.tm.lt m
    rw [e, hs] at e1
    cases e1
    obtain ⟨m0, _⟩ := ha.all t m
    refine ⟨fun v lv => ?_, ?_⟩
    · rw [z]
      have := mnL_le (getD_mem (ws := t.2) (v := v) (by omega))
      omega
    · obtain ⟨v, lv, ev⟩ := mem_getD (mnL_mem (ne_of_len e2 e3))
      exact ⟨v, by omega, by rw [z, ev, m0]⟩
theorem at1_eq {ss : List Nat} (h1 : ∀ s ∈ ss, 1 ≤ s) {a b : List Trm × Int} (ha : SumOk ss a) (hb : SumOk ss b) (eq : ∀ r, RowOk ss r → wt r a.1 - a.2 = wt r b.1 - b.2) (c s : Nat) (hs : ss[c]? = some s) (v : Nat) (lv : v < s) : at1 a.1 c v = at1 b.1 c v := by
  have sm := at1_same h1 ha hb eq c s hs
  obtain ⟨p1, v1, l1, z1⟩ := at1_low ha hs (h1 s (List.mem_of_getElem? hs))
  obtain ⟨p2, v2, l2, z2⟩ := at1_low hb hs (h1 s (List.mem_of_getElem? hs))
  have e1 := sm v1 v2 l1 l2
  have e2 := sm v v1 lv l1
  have q1 := p1 v2 l2
  have q2 := p2 v1 l1
  omega
/-- the terms are told by their weights -/
theorem terms_eq {ss : List Nat} : ∀ {ts us : List Trm} {k : Nat}, TmOk ss k ts → TmOk ss k us → (∀ t ∈ ts, mnL t.2 = 0 ∧ 0 < mxL t.2) → (∀ t ∈ us, mnL t.2 = 0 ∧ 0 < mxL t.2) → (∀ c s v, ss[c]? = some s → v < s → at1 ts c v = at1 us c v) → ts = us
  | [], [], _, _, _, _, _, _ => rfl
  | [], u :: us, k, _, ⟨a, ⟨s, b1, b2, b3⟩, d⟩, _, hu, eq => by
    exfalso
    obtain ⟨v, lv, ev⟩ := mem_getD (mxL_mem (ne_of_len b2 b3))
    have q := eq u.1 s v b1 (by omega)
    have z := at1_none (v := v) (c := u.1) (Nat.lt_succ_self _) d
    have p := (hu u List.mem_cons_self).2
    rw [at1_cons, if_pos rfl, ev, z] at q
    simp only [at1, List.map_nil, List.sum_nil] at q
    omega
  | t :: ts, [], k, ⟨a, ⟨s, b1, b2, b3⟩, d⟩, _, ht, _, eq => by
    exfalso
    obtain ⟨v, lv, ev⟩ := mem_getD (mxL_mem (ne_of_len b2 b3))
    have q := eq t.1 s v b1 (by omega)
    have z := at1_none (v := v) (c := t.1) (Nat.lt_succ_self _) d
    have p := (ht t List.mem_cons_self).2
    rw [at1_cons, if_pos rfl, ev, z] at q
    simp only [at1, List.map_nil, List.sum_nil] at q
    omega
  | t :: ts, u :: us, k, ⟨a, ⟨s, b1, b2, b3⟩, d⟩, ⟨a', ⟨s', b1', b2', b3'⟩, d'⟩, ht, hu, eq => by
    have e0 : t.1 = u.1 := by
      rcases Nat.lt_trichotomy t.1 u.1 with l | l | l
      · exfalso
        obtain ⟨v, lv, ev⟩ := mem_getD (mxL_mem (ne_of_len b2 b3))
        have q := eq t.1 s v b1 (by omega)
        have z := at1_none (v := v) (c := t.1) (Nat.lt_succ_self _) d
        have z' := at1_none (v := v) (c := t.1) (ts := u :: us) (k := u.1) l ⟨Nat.le_refl _, ⟨s', b1', b2', b3'⟩, d'⟩
        have p := (ht t List.mem_cons_self).2
        rw [z'] at q
        rw [at1_cons, if_pos rfl, ev, z] at q
        omega
      · exact l
      · exfalso
        obtain ⟨v, lv, ev⟩ := mem_getD (mxL_mem (ne_of_len b2' b3'))
        have q := eq u.1 s' v b1' (by omega)
        have z := at1_none (v := v) (c := u.1) (Nat.lt_succ_self _) d'
        have z' := at1_none (v := v) (c := u.1) (ts := t :: ts) (k := t.1) l ⟨Nat.le_refl _, ⟨s, b1, b2, b3⟩, d⟩
        have p := (hu u List.mem_cons_self).2
        rw [z'] at q
        rw [at1_cons, if_pos rfl, ev, z] at q
        omega
    have es : s = s' := by rw [e0, b1'] at b1; cases b1; rfl
    have e2 : t.2 = u.2 := by
      refine List.ext_getElem (by omega) fun v l1 l2 => ?_
      have q := eq t.1 s v b1 (by omega)
      have z := at1_none (v := v) (c := t.1) (Nat.lt_succ_self _) d
      have z' := at1_none (v := v) (c := t.1) (by rw [e0]; exact Nat.lt_succ_self _) d'
      rw [at1_cons, at1_cons, if_pos rfl, if_pos e0.symm, z, z', List.getD_eq_getElem?_getD, List.getD_eq_getElem?_getD, List.getElem?_eq_getElem l1, List.getElem?_eq_getElem l2] at q
      simp only [Option.getD_some] at q
      omega
    have et : t = u := Prod.ext e0 e2
    subst et
    have ih := terms_eq d d' (fun x hx => ht x (List.mem_cons_of_mem _ hx)) (fun x hx => hu x (List.mem_cons_of_mem _ hx)) fun c s v hs lv => by
      have q := eq c s v hs lv
      rw [at1_cons, at1_cons] at q
      omega
    rw [ih]
/-- two sums have the same weights less bound at every row exactly if they are equal -/
theorem one_form {ss : List Nat} (h1 : ∀ s ∈ ss, 1 ≤ s) {a b : List Trm × Int} (ha : SumOk ss a) (hb : SumOk ss b) (eq : ∀ r, RowOk ss r → wt r a.1 - a.2 = wt r b.1 - b.2) : a = b := by
  have ets : a.1 = b.1 := terms_eq ha.tm hb.tm ha.all hb.all fun c s v hs lv => at1_eq h1 ha hb eq c s hs v lv
  have q := eq _ (row_zero h1)
  rw [ets] at q
  exact Prod.ext ets (by omega)
end BK
set_option Elab.async false
set_option linter.all false
set_option maxRecDepth 100000
set_option maxHeartbeats 4000000
/-! KitO: tests with or. -/
namespace BK
open PySem PySem.Spec PyProof.Rows L2
/-- a or b or ..., as a test -/
structure PO (X : Cx) (pos : Pos) (es : List Expr) (t : TT) : Prop where
  run : ∀ (whole : Sem Value) (pins : List (Addr × Obj)) (s : Shared) (σ : L2.St) (H : Hp) (Q : Bool → Hp → Prop), Inv X pins σ H s → t σ H Q →
    wpAny (model X.prog X.w) X.A (isTrue (.BoolOp .Or es pos) X.env whole) (fun d s' => ∃ H', Inv X pins σ H' s' ∧ Q d H') X.xe s
def tOr0 : TT := fun _ H Q => Q false H
def tOr1 (t u : TT) : TT := fun σ H Q => t σ H fun c H1 => if c = true then Q true H1 else u σ H1 Q
section
variable {X : Cx} {pos : Pos} {e : Expr} {es : List Expr} {t u : TT}
theorem po_nil : PO X pos [] tOr0 := ⟨fun _ _ _ _ H _ I h => isTrue_or_nil ⟨H, I, h⟩⟩
theorem po_cons (a : PT X e t) (r : PO X pos es u) : PO X pos (e :: es) (tOr1 t u) := by
  constructor
  intro whole pins s σ H Q I h
  apply isTrue_or
  apply thn (a.run pins s σ H _ I h)
  rintro c s1 ⟨H1, I1, q⟩
  cases c with
  | true => exact ⟨H1, I1, q⟩
  | false => exact r.run whole pins s1 σ H1 Q I1 q
theorem pt_or (o : PO X pos es t) : PT X (.BoolOp .Or es pos) t := ⟨fun pins s σ H Q I h => o.run _ pins s σ H Q I h⟩
end
end BK
set_option Elab.async false
set_option linter.all false
set_option maxRecDepth 100000
set_option maxHeartbeats 4000000
/-! KitN: enumerate of a tuple. -/
namespace BK
open PySem PySem.Spec PyProof.Rows L2
/-- enumerate(v), v by what its iterator is -/
theorem enum_meets {v : Value} {o : Obj} {Z : Heap → Prop} (B : Begins v o Z) :
    Meets (Builtin.«enumerate.__new__» ⟨[.type "enumerate", v], []⟩) (fun _ R s => Z s.heap ∧
      R (.ok (.ret (.ref (s.heap.push o).objs.size))) { s with heap := (s.heap.push o).push { cls := .type "enumerate", data := .fields #[.none, .bool false, .ref s.heap.objs.size, rawInt 0, .none, .none] } }) := by
  apply Meets.of_wp
  rintro prog w A R ⟨hp, g, d, tk, os⟩ ⟨z, fin⟩
  have sub := sub_enumerate
  have it : ∀ {A' : Around} {E : Value → Shared → Prop} {Q : Value → Shared → Prop}, Q (.ref hp.objs.size) ⟨hp.push o, g, d, tk, os⟩ → wpAny (model prog w) A' (pyIter v) Q E ⟨hp, g, d, tk, os⟩ := fun q => B.iter prog w _ _ _ _ z q
  wp_walk using it
  apply wpAny_stack_any
  intro st
  apply wpAny_pure
  split
  · rename_i c _ _ _ _ _
    by_cases e : (c == Value.type "enumerate") = true <;> simp only [e] <;> (wp_walk using it; exact ⟨_, rfl, fin⟩)
  · wp_walk using it
    exact ⟨_, rfl, fin⟩
section
variable {prog : Program} {w : World} {A : Around} {E : Value → Shared → Prop} {s : Shared}
theorem call_enumT {t : Addr} {its : Array Value} {Q : Value → Shared → Prop} (ht : s.heap.IsTuple t its)
    (h : ∀ h', IsEnum h' (s.heap.objs.size + 1) s.heap.objs.size 0 .none → h'.IsTupleIter s.heap.objs.size t 0 → (∀ b o, s.heap.get? b = some o → h'.get? b = some o) → Q (.ref (s.heap.objs.size + 1)) { s with heap := h' }) :
    wpAny (model prog w) A (call (.type "enumerate") [.ref t]) Q E s := by
  apply callType_new F.called_enumerate (by decide) (F.typeCall_enumerate_1 _) (F.newCall_enumerate_1 _) (fun obj => F.args_object_init_2 obj _) F.entry_enumerate_new (enum_meets (begins_tuple t its))
  refine ⟨ht, ?_⟩
  generalize eo : ({ cls := .type "tuple_iterator", data := .fields #[.ref t, .int 0 0] } : Obj) = o
  have free : o.isFreed = false := by rw [← eo]; rfl
  have size1 : (s.heap.push o).objs.size = s.heap.objs.size + 1 := Heap.size_push ..
  generalize ee : ({ cls := .type "enumerate", data := .fields #[.none, .bool false, .ref s.heap.objs.size, rawInt 0, .none, .none] } : Obj) = e
  have free2 : e.isFreed = false := by rw [← ee]; rfl
  have atE : ((s.heap.push o).push e).get? (s.heap.objs.size + 1) = some e := by
    have := Heap.get?_push_size (s.heap.push o) (o := e) free2
    rwa [size1] at this
  have atO : ((s.heap.push o).push e).get? s.heap.objs.size = some o := Heap.get?_push_of_some _ (Heap.get?_push_size _ free)
  show _ ∧ _
  rw [size1]
  refine ⟨⟨e, atE, by rw [← ee]⟩, h _ ?_ ?_ fun b u k => Heap.get?_push_of_some _ (Heap.get?_push_of_some _ k)⟩
  · rw [← ee] at atE ⊢
    exact atE
  · rw [← eo] at atO ⊢
    exact ⟨_, atO, rfl, rfl⟩
end
/-- the tuple at a, each item in a new pair with its place -/
def Ite2 (K : PySem.W.Frag) (a : Addr) : It where
  go := fun i H => ∃ (xs : List V) (x : V), SqT K H a xs ∧ xs[i]? = some x
  yld := fun i H v H' => ∃ (T : Addr) (x : V), v = .ref T ∧ H T = none ∧ H' = upd H T (.tup [.int (i : Nat), x]) ∧ ∀ xs, SqT K H a xs → xs[i]? = some x
  stop := fun i H => ∃ xs : List V, SqT K H a xs ∧ xs.length = i
/-- how it stands at turn i: the enumerate at e, its iterator at it -/
def EnT (a e it : Addr) (i : Nat) (h : Heap) : Prop := (∃ old, IsEnum h e it ((i : Nat) : Int) old) ∧ h.IsTupleIter it a i ∧ e ≠ it
theorem EnT.apart {a e it : Addr} {i : Nat} {h : Heap} {its : Array Value} (t : EnT a e it i h) (p : h.IsTuple a its) : a ≠ it ∧ a ≠ e := by
  obtain ⟨⟨old, he⟩, ⟨o, ho, hc, _⟩, _⟩ := t
  obtain ⟨o2, h2, c2, _⟩ := p
  constructor
  · rintro rfl
    rw [ho] at h2
    cases h2
    rw [hc] at c2
    exact absurd c2 (by decide)
  · rintro rfl
    rw [he] at h2
    cases h2
    replace c2 : Value.type "enumerate" = Value.type "tuple" := c2
    exact absurd c2 (by decide)
theorem two_cases {b x y : Addr} {C : Prop} (hb : b ∈ [x, y]) (h1 : b = x → C) (h2 : b = y → C) : C := by
  simp only [List.mem_cons, List.not_mem_nil, or_false] at hb
  exact hb.elim h1 h2
theorem turn_enumT {P : Program} {w : World} {K : PySem.W.Frag} {elts : List Expr} {kk : Nat} {tpos : Pos} (a e it : Addr) : Turn P w K (.Tuple elts kk tpos) (Ite2 K a) [e, it] e (EnT a e it) where
  mem := List.mem_cons_self ..
  obj := by
    rintro i h ⟨⟨old, he⟩, ⟨o, ho, _, hd⟩, _⟩ b hb
    apply two_cases hb
    · rintro rfl
      exact ⟨_, he, fun v q => nomatch q⟩
    · rintro rfl
      exact ⟨o, ho, fun v q => by rw [hd] at q; cases q⟩
  keep := by
    rintro i h h' ⟨⟨old, he⟩, hi, ne⟩ k
    exact ⟨⟨old, k e (by simp) _ he⟩, hi.at fun o q => k it (by simp) o q, ne⟩
  item := by
    rintro X rfl rfl rfl calm i pins s σ H E I fp st ⟨xs, x, hq, hx⟩
    obtain ⟨its, rv, p, _⟩ := I.tuple hq
    have ap := st.apart (its := its.toArray) p
    obtain ⟨⟨old, he⟩, hi, ne⟩ := st
    obtain ⟨u, hu, ru⟩ := rv.get hx
    have lt : i < its.toArray.size := by
      have := (List.getElem?_eq_some_iff.mp hu).1
      simpa using this
    have el := Heap.lt_size he
    have il : it < s.heap.objs.size := by
      obtain ⟨_, q, _⟩ := hi
      exact Heap.lt_size q
    refine wpAny_pyNext_enum_itemD (Draws.tuple (A := X.A.in1) (I.ok.hd calm) it a ap.1 its.toArray) he ⟨hi, p⟩ lt ne ?_ ?_
    · simp only [List.mem_cons, List.not_mem_nil, or_false, not_or]
      exact ⟨ne, Ne.symm ap.2⟩
    · intro y h1 tk hy out st1 tup size1 keep1
      have ey : y = u := by
        have h9 : its[i]? = some y := by simpa using hy
        rw [hu] at h9
        exact (Option.some.inj h9).symm
      subst ey
      refine ⟨_, rfl, ?_⟩
      apply wpAny_letOwnedTupleGo_enum out
      intro h2 he2 sb
      have nT : s.heap.objs.size ≠ e := Nat.ne_of_gt el
      have tup2 : h2.get? s.heap.objs.size = some { cls := .type "tuple", data := .seq #[.int i tk, y] } := (sb.2 _ nT).trans tup
      have new : ObjOk X.prog X.w (upd H s.heap.objs.size (.tup [.int (i : Nat), x])) h2 s.heap.objs.size (.tup [.int (i : Nat), x]) := ⟨by show 2 ≤ sizeLine; decide, [.int i tk, y], .cons ⟨_, rfl⟩ (.cons ru .nil), ⟨_, tup2, rfl, _, rfl⟩⟩
      have J := I.turnedNew (t' := tk + 1) (h' := h2) (ch := [e, it]) (fun b ob hb q => by
        have b1 : b ≠ e := fun z => hb (by simp [z])
        have b2 : b ≠ it := fun z => hb (by simp [z])
        exact (sb.2 b b1).trans (keep1 b ob b1 b2 q)) fp (Nat.le_refl _) new
      refine ⟨.ref s.heap.objs.size, _, J, rfl, ⟨_, x, rfl, I.hok.fresh (Nat.le_refl _), rfl, fun ys hy => by rw [I.tuple_inj hy hq]; exact hx⟩, ⟨⟨y, ?_⟩, ?_, ne⟩, fun b hb => ?_⟩
      · have e1 : ((i + 1 : Nat) : Int) = (i : Int) + 1 := by omega
        rw [e1]
        exact he2
      · exact st1.1.at fun o q => (sb.2 it (Ne.symm ne)).trans q
      · have hn := (fp b hb).1
        have nb : b ≠ s.heap.objs.size := two_cases hb (fun z => by rw [z]; exact Nat.ne_of_lt el) fun z => by rw [z]; exact Nat.ne_of_lt il
        rw [upd_ne nb]
        exact hn
  done := by
    rintro X rfl rfl rfl calm i pins s σ H E I fp st ⟨xs, hq, hx⟩
    obtain ⟨its, rv, p, _⟩ := I.tuple hq
    have ap := st.apart (its := its.toArray) p
    obtain ⟨⟨old, he⟩, hi, ne⟩ := st
    have hl := rv.length
    have ei : its.toArray.size = i := by
      simp only [List.size_toArray]
      omega
    rw [← ei] at hi
    refine wpAny_pyNext_enum_endD (Draws.tuple (A := X.A.in1) (I.ok.hd calm) it a ap.1 its.toArray) he ⟨hi, p⟩ fun h' eb => ⟨rfl, ?_⟩
    obtain ⟨f0, f1, f2, f3, f4, f5⟩ := fp it (by simp)
    exact I.turned (t' := s.toks) (fun b o hb q => eb b o hb q) f0 f1 f3 f4 f5
  self := by
    rintro A i s Q E ⟨⟨old, he⟩, _⟩ h
    exact wpAny_pyIter_enum he h
def iEnumT (K : PySem.W.Frag) (ta : TA) : TI := fun σ H R => ta σ H fun vs H1 => ∃ a xs, vs = [.ref a] ∧ SqT K H1 a xs ∧ R (Ite2 K a) H1
theorem pi_enumT {X : Cx} {e : Expr} {ta : TA} {p pos tpos : Pos} {elts : List Expr} {kk : Nat} (hg : Gl X "enumerate") (hm : X.mg "enumerate" = none) (ha : PA X [e] ta) (hs : starEach [e] X.env = [(false, eval e X.env)] := by rfl) :
    PI X (.Tuple elts kk tpos) (.Call (.Name "enumerate" p) [e] [] pos) (iEnumT X.K ta) := by
  constructor
  intro pins s σ H R I h
  refine Call_ ?_
  apply ld_blt I hg hm boot_enumerate
  apply PyProof.Rows.callWith_type1 _ hs rfl
  apply thn (ha.run pos pins s σ H _ I h)
  rintro us s1 ⟨vs, H1, I1, r1, a, xs, rfl, hq, q⟩
  cases r1 with
  | cons r rr =>
    cases rr
    obtain rfl : _ = Value.ref a := r
    obtain ⟨its, rv, pt, _⟩ := I1.tuple hq
    have pT : s1.heap.IsTuple a its.toArray := pt
    apply call_enumT pT
    intro h' he hi keep
    apply wpAny_pyIter_enum he
    refine ⟨s1.heap.objs.size + 1, [s1.heap.objs.size + 1, s1.heap.objs.size], _, Ite2 X.K a, H1, rfl, I1.kept (t' := s1.toks) keep, turn_enumT a (s1.heap.objs.size + 1) s1.heap.objs.size, ⟨⟨.none, he⟩, hi, Nat.succ_ne_self _⟩, fun b hb => ?_, q⟩
    have le : s1.heap.objs.size ≤ b := two_cases hb (fun z => by rw [z]; exact Nat.le_succ _) fun z => by rw [z]; exact Nat.le_refl _
    exact I1.fpOk le (I1.hok.fresh le)
/-- a loop over it -/
theorem for_enumT {K : PySem.W.Frag} {a : Addr} {xs : List V} {g : TG} {tb : TS} {D : Ends} {σ : L2.St} {H : Hp} (Pv : Nat → L2.St → Hp → Prop) (h0 : Pv 0 σ H) (hl : ∀ i σ H, i ≤ xs.length → Pv i σ H → SqT K H a xs)
    (hs : ∀ i x σ H T, xs[i]? = some x → Pv i σ H → H T = none → g (.ref T) σ (upd H T (.tup [.int (i : Nat), x])) fun σ2 H2 => tb { D with nx := Pv (i + 1), ct := Pv (i + 1), bk := D.nx } σ2 H2) (hd : ∀ σ H, Pv xs.length σ H → D.nx σ H) :
    ∃ W : Nat → Nat → L2.St → Hp → Prop, (∃ m, W 0 m σ H) ∧ ∀ i m σ H, W i m σ H →
      ((Ite2 K a).stop i H ∧ D.nx σ H) ∨ ((Ite2 K a).go i H ∧ ∃ N : L2.St → Hp → Prop, (∀ σ' H', N σ' H' → ∃ m', m' < m ∧ W (i + 1) m' σ' H') ∧ ∀ x H', (Ite2 K a).yld i H x H' → g x σ H' fun σ2 H2 => tb { D with nx := N, ct := N, bk := D.nx } σ2 H2) := by
  refine ⟨fun i m σ H => i ≤ xs.length ∧ m = xs.length - i ∧ Pv i σ H, ⟨_, Nat.zero_le _, rfl, h0⟩, ?_⟩
  rintro i m σ H ⟨le, rfl, pv⟩
  have hq := hl i σ H le pv
  by_cases e : i = xs.length
  · subst e
    exact .inl ⟨⟨xs, hq, rfl⟩, hd σ H pv⟩
  · have lt : i < xs.length := by omega
    refine .inr ⟨⟨xs, xs[i], hq, by simp [lt]⟩, Pv (i + 1), fun σ' H' h => ⟨_, by omega, by omega, rfl, h⟩, ?_⟩
    rintro x H' ⟨T, y, rfl, hT, rfl, hy⟩
    exact hs i y σ H T (hy xs hq) pv hT
end BK
set_option Elab.async false
set_option linter.all false
set_option maxRecDepth 100000
set_option maxHeartbeats 4000000
/-! KitW: min, max of a tuple of ints; heaps that grow beside the tables of code objects. -/
namespace BK
open PySem PySem.Spec PyProof.Rows L2 LamX
section
variable {prog : Program} {w : World} {A : Around} {E : Value → Shared → Prop} {s : Shared}
theorem walks_tup {t : Addr} {its : Array Value} (hh : A.handled = none) (ht : s.heap.IsTuple t its) : ∃ (fp wr : List Addr) (St : Nat → Shared → Prop), WalksS prog w A s.heap.objs.size fp wr (fun a b => b = a) its.size (fun i v => its[i]? = some v) St ∧
    St 0 { s with heap := s.heap.push { cls := .type "tuple_iterator", data := .fields #[.ref t, .int 0 0] } } ∧ (∀ b ∈ fp, b < (s.heap.push { cls := .type "tuple_iterator", data := .fields #[.ref t, .int 0 0] }).objs.size) ∧ ∀ b ∈ wr, b = s.heap.objs.size := by
  obtain ⟨o, ho, hc, n, hd⟩ := id ht
  have hne : t ≠ s.heap.objs.size := Nat.ne_of_lt (Heap.lt_size ho)
  have W := (Walks.tuple (prog := prog) (w := w) (A := A) hh s.heap.objs.size t hne its).toS
  refine ⟨_, _, _, W, ⟨⟨_, Heap.get?_push_size _ rfl, rfl, rfl⟩, ht.at fun o e => Heap.get?_push_of_some _ e⟩, fun b hb => ?_, fun b hb => List.mem_singleton.mp hb⟩
  rcases List.mem_cons.mp hb with e | hb
  · rw [e]
    exact Heap.lt_size (Heap.get?_push_size _ rfl)
  · rw [List.mem_singleton.mp hb]
    exact Heap.lt_size (Heap.get?_push_of_some _ ho)
end
section
variable {X : Cx}
abbrev rLeast (K : PySem.W.Frag) (f : List Int → Int) : List V → Hp → VK → Prop := fun vs H Q => ∃ (a : Addr) (ns : List Int), vs = [V.ref a] ∧ SqT K H a (ns.map V.int) ∧ ns ≠ [] ∧ Q (.int (f ns)) H
theorem val_at : ∀ {ns : List Int} {us : List Value} {i : Nat} {v : Value}, Vals (ns.map V.int) us → us[i]? = some v → ∃ n, ns[i]? = some n ∧ ∃ t, v = .int n t
  | [], _, _, _, r, e => by
    cases r
    simp at e
  | n :: ns, _, 0, _, r, e => by
    cases r with
    | cons a b =>
      simp at e
      subst e
      exact ⟨n, rfl, a⟩
  | n :: ns, _, i + 1, _, r, e => by
    cases r with
    | cons a b =>
      obtain ⟨m, h1, h2⟩ := val_at (i := i) b (by simpa using e)
      exact ⟨m, by simpa using h1, h2⟩
theorem gD {ns : List Int} {i : Nat} {n : Int} (h : ns[i]? = some n) : ns.getD i 0 = n := by rw [List.getD_eq_getElem?_getD, h]; rfl
theorem call_minT (hc : X.calm = true) : CallR X (.builtin "min") (rLeast X.K mnL) := by
  intro pins s σ H xs us Q I r h
  obtain ⟨a, ns, rfl, hs, ne, q⟩ := h
  cases r with
  | cons rx rr =>
    cases rr
    obtain rfl : _ = Value.ref a := rx
    obtain ⟨its, rv, ht, _⟩ := I.tuple hs
    have hl : s.heap.IsTuple a its.toArray := ht
    have ln : its.toArray.size = ns.length := by simpa using rv.length.symm
    have pos : 0 < ns.length := List.length_pos_iff.mpr ne
    obtain ⟨fp, wr, St, W, st0, hfp, hwr⟩ := walks_tup (prog := X.prog) (w := X.w) (A := X.A.in1) (I.ok.hd hc) hl
    refine call_min_walkS (wpAny_pyIter_tuple hl ⟨s.heap.objs.size, fp, wr, _, _, _, St, _, rfl, W, st0, hfp, by omega, CmpOf.ints_lt (fun i => ns.getD i 0) (fun i v hv => ?_), fun v s' hv hm => ?_⟩)
    · obtain ⟨n, e1, t, e2⟩ := val_at rv (by rw [← List.getElem?_toArray]; exact hv)
      exact ⟨t, by rw [e2, gD e1]⟩
    · obtain ⟨n, e1, t, e2⟩ := val_at rv (by rw [← List.getElem?_toArray]; exact hv)
      have hb := argBest_lt (fun i => ns.getD i 0) (its.toArray.size - 1)
      have em : n = mnL ns := by
        refine mnL_eq (List.mem_of_getElem? e1) fun x hx => ?_
        obtain ⟨j, lj, ej⟩ := mem_getD hx
        have := hb.2 j (by omega)
        rw [gD e1, ej] at this
        exact this
      subst em
      have es := GxR.sh_eta s s' hm.os
      have k : ∀ b o, s.heap.get? b = some o → s'.heap.get? b = some o := fun b o e => hm.heap b o (fun z => by
        have := Heap.lt_size e
        rw [hwr b z] at this
        exact Nat.lt_irrefl _ this) (Heap.get?_push_of_some _ e)
      refine ⟨.int (mnL ns), H, inv_sleepA I ⟨hm.os, by rw [show s'.gens = s.gens from hm.gens]; exact I.bare, k⟩, ⟨t, e2⟩, q⟩
where
  inv_sleepA {X : Cx} {pins : List (Addr × Obj)} {σ : L2.St} {H : Hp} {s s' : Shared} (I : Inv X pins σ H s) (k : s'.os = s.os ∧ AllBare s'.gens ∧ ∀ b o, s.heap.get? b = some o → s'.heap.get? b = some o) : Inv X pins σ H s' :=
    I.call' (ch := []) k.1 (Un.kept k.2.2) (I.hok.kept k.2.2) k.2.1 fun b z => by simp at z
theorem call_maxT (hc : X.calm = true) : CallR X (.builtin "max") (rLeast X.K mxL) := by
  intro pins s σ H xs us Q I r h
  obtain ⟨a, ns, rfl, hs, ne, q⟩ := h
  cases r with
  | cons rx rr =>
    cases rr
    obtain rfl : _ = Value.ref a := rx
    obtain ⟨its, rv, ht, _⟩ := I.tuple hs
    have hl : s.heap.IsTuple a its.toArray := ht
    have ln : its.toArray.size = ns.length := by simpa using rv.length.symm
    have pos : 0 < ns.length := List.length_pos_iff.mpr ne
    obtain ⟨fp, wr, St, W, st0, hfp, hwr⟩ := walks_tup (prog := X.prog) (w := X.w) (A := X.A.in1) (I.ok.hd hc) hl
    refine call_max_walkS (wpAny_pyIter_tuple hl ⟨s.heap.objs.size, fp, wr, _, _, _, St, _, rfl, W, st0, hfp, by omega, CmpOf.ints_gt (fun i => ns.getD i 0) (fun i v hv => ?_), fun v s' hv hm => ?_⟩)
    · obtain ⟨n, e1, t, e2⟩ := val_at rv (by rw [← List.getElem?_toArray]; exact hv)
      exact ⟨t, by rw [e2, gD e1]⟩
    · obtain ⟨n, e1, t, e2⟩ := val_at rv (by rw [← List.getElem?_toArray]; exact hv)
      have hb := argBest_gt (fun i => ns.getD i 0) (its.toArray.size - 1)
      have em : n = mxL ns := by
        refine mxL_eq (List.mem_of_getElem? e1) fun x hx => ?_
        obtain ⟨j, lj, ej⟩ := mem_getD hx
        have := hb.2 j (by omega)
        rw [gD e1, ej] at this
        exact this
      subst em
      have k : ∀ b o, s.heap.get? b = some o → s'.heap.get? b = some o := fun b o e => hm.heap b o (fun z => by
        have := Heap.lt_size e
        rw [hwr b z] at this
        exact Nat.lt_irrefl _ this) (Heap.get?_push_of_some _ e)
      exact ⟨.int (mxL ns), H, call_minT.inv_sleepA I ⟨hm.os, by rw [show s'.gens = s.gens from hm.gens]; exact I.bare, k⟩, ⟨t, e2⟩, q⟩
end
/-! ### heaps that grow -/
/-- all but the tables stays; the tables are as they must be -/
structure Gq (T : List (Addr × Str)) (H H' : Hp) : Prop where
  ext : ExtN H H'
  tb : Tabs T H'
/-- one name a table -/
def Uq (T : List (Addr × Str)) : Prop := ∀ p ∈ T, ∀ p' ∈ T, p.1 = p'.1 → p.2 = p'.2
section
variable {T : List (Addr × Str)}
theorem Gq.refl {H : Hp} (t : Tabs T H) : Gq T H H := ⟨ExtN.refl H, t⟩
theorem Gq.trans {H H1 H2 : Hp} (a : Gq T H H1) (b : Gq T H1 H2) : Gq T H H2 := ⟨a.ext.trans b.ext, b.tb⟩
theorem tabs_new {H : Hp} {p : Addr} {o : HO} (h : H p = none) (t : Tabs T H) : Tabs T (upd H p o) := t.ext fun b u e => by
  rw [upd_ne (ne_of_none e h)]
  exact e
theorem Gq.new {H H1 : Hp} {p : Addr} {o : HO} (a : Gq T H H1) (h : H1 p = none) : Gq T H (upd H1 p o) := ⟨a.ext.trans (ext_new h), tabs_new h a.tb⟩
theorem Gq.same {H H1 H2 : Hp} (a : Gq T H H1) (e : Same H1 H2) : Gq T H H2 := ⟨a.ext.trans (ExtN.of e), a.tb.ext e⟩
theorem Gq.rep {H H' : Hp} {K : PySem.W.Frag} {v : V} {d : PyData} (a : Gq T H H') (r : Rep K H v d) : Rep K H' v d := r.ext a.ext
theorem Gq.free {H H' : Hp} (a : Gq T H H') {p : Addr} (h : H' p = none) (nt : ∀ ps, H p ≠ some (.tbl ps)) : H p = none := by
  cases q : H p with
  | none => rfl
  | some o =>
    have := a.ext p o q (fun ps z => nt ps (by rw [q, z]))
    rw [h] at this
    cases this
/-- the table at P has grown -/
theorem Gq.grow {H H' : Hp} {P : Addr} {q : Str} (u : Uq T) (m : (P, q) ∈ T) (t : Tabs T H) (g : Grow P q H H') : Gq T H H' := by
  obtain ⟨ps, e1, _, _⟩ := t _ m
  have ex := g.ext e1
  refine ⟨ex, fun p hp => ?_⟩
  by_cases z : p.1 = P
  · rw [z, u p hp (P, q) m z]
    exact g.1
  · obtain ⟨qs, h1, h2, h3⟩ := t p hp
    refine ⟨qs, g.2 _ _ z h1, h2, fun pos cv hc => ?_⟩
    obtain ⟨c, r1, r2⟩ := h3 pos cv hc
    exact ⟨c, r1, g.2 _ _ (fun y => by rw [y, e1] at r2; cases r2) r2⟩
/-- a list of ours, new since H, is written -/
theorem Gq.wrote {H H1 : Hp} {p : Addr} {xs : List V} {o : HO} (a : Gq T H H1) (n : H p = none) (h : H1 p = some (.lst xs)) : Gq T H (upd H1 p o) := by
  refine ⟨ext_mut a.ext n, fun q hq => ?_⟩
  obtain ⟨ps, h1, h2, h3⟩ := a.tb q hq
  have np : q.1 ≠ p := fun z => by rw [z, h] at h1; cases h1
  refine ⟨ps, by rw [upd_ne np]; exact h1, h2, fun pos cv hc => ?_⟩
  obtain ⟨c, r1, r2⟩ := h3 pos cv hc
  exact ⟨c, r1, by rw [upd_ne (fun z => by rw [z, h] at r2; cases r2)]; exact r2⟩
end
/-! ### data -/
def dN (l : List Nat) : PyData := .tuple (l.map fun n => .int (n : Nat))
def dW (ws : List Int) : PyData := .tuple (ws.map .int)
def dTm (t : Trm) : PyData := .tuple [.int (t.1 : Nat), dW t.2]
def dTs (ts : List Trm) : PyData := .tuple (ts.map dTm)
def dSm (s : List Trm × Int) : PyData := .tuple [dTs s.1, .int s.2]
section
variable {K : PySem.W.Frag} {H : Hp}
theorem rep_at : ∀ {xs : List V} {ds : List PyData} {i : Nat} {x : V}, RepAll K H xs ds → xs[i]? = some x → ∃ d, ds[i]? = some d ∧ Rep K H x d
  | _, _, _, _, .nil, e => by simp at e
  | _, _, 0, _, .cons h _, e => by
    simp at e
    subst e
    exact ⟨_, rfl, h⟩
  | _, _, i + 1, _, .cons _ r, e => by
    obtain ⟨d, a, b⟩ := rep_at (i := i) r (by simpa using e)
    exact ⟨d, by simpa using a, b⟩
end
end BK
set_option Elab.async false
set_option maxRecDepth 100000
open PySem L2
namespace K2
def top (i : Nat) : Stmt := PySem.Challenge.pw_besthours_k22_one_form_of_sums.main.body.getD i (.Pass ⟨0, 0, 0, 0⟩)
abbrev sInteger : Stmt := top 1
abbrev sWithin : Stmt := top 2
abbrev sFrom : Stmt := top 3
abbrev sRow : Stmt := top 4
abbrev sNeedSizes : Stmt := top 12
abbrev sRowOf : Stmt := top 13
abbrev sNeedRow : Stmt := top 14
abbrev sTerms : Stmt := top 15
abbrev sSum : Stmt := top 16
abbrev sForm : Stmt := top 17
abbrev sWeightIn : Stmt := top 18
abbrev sKeptBy : Stmt := top 19
abbrev sNeedSum : Stmt := top 20
abbrev sFormOf : Stmt := top 21
abbrev sWeightOf : Stmt := top 22
abbrev sKept : Stmt := top 23
abbrev sMixed : Stmt := top 25
abbrev sBegin : Stmt := top 26
abbrev sDraw : Stmt := top 27
abbrev sMany : Stmt := top 28
abbrev sDrawn : Stmt := top 29
abbrev sRows : Stmt := top 30
abbrev sWeight : Stmt := top 31
abbrev sLForm : Stmt := top 32
abbrev sLike : Stmt := top 33
abbrev sBound : Stmt := top 34
abbrev sRight : Stmt := top 35
abbrev sMoved : Stmt := top 36
abbrev sLaw : Stmt := top 37
end K2
set_option Elab.async false
set_option linter.all false
set_option maxRecDepth 100000
set_option maxHeartbeats 4000000
/-! KitJ: defs whose code object is known; the built-ins' names. -/
namespace BK
open PySem PySem.Spec PyProof.Rows L2 LamX
structure Bl (mg : Str → Option Value) : Prop where
  isi : mg "isinstance" = none
  int : mg "int" = none
  bool : mg "bool" = none
  tup : mg "tuple" = none
  len : mg "len" = none
  all : mg "all" = none
  sum : mg "sum" = none
  rng : mg "range" = none
  lst : mg "list" = none
  rep : mg "repr" = none
  enu : mg "enumerate" = none
  min : mg "min" = none
  max : mg "max" = none
  zip : mg "zip" = none
theorem sIns : bootBuiltins "isinstance" = some (.builtin "isinstance") := by decide +kernel
theorem sInt : bootBuiltins "int" = some (.type "int") := by decide +kernel
theorem sBool : bootBuiltins "bool" = some (.type "bool") := by decide +kernel
theorem sTup : bootBuiltins "tuple" = some (.type "tuple") := by decide +kernel
theorem sLen : bootBuiltins "len" = some (.builtin "len") := by decide +kernel
theorem sAll : bootBuiltins "all" = some (.builtin "all") := by decide +kernel
theorem sSumB : bootBuiltins "sum" = some (.builtin "sum") := by decide +kernel
theorem sMin : bootBuiltins "min" = some (.builtin "min") := by decide +kernel
theorem sMax : bootBuiltins "max" = some (.builtin "max") := by decide +kernel
theorem sList : bootBuiltins "list" = some (.type "list") := by decide +kernel
theorem sRepr : bootBuiltins "repr" = some (.builtin "repr") := by decide +kernel
/-- a def under its name, its code object's table at P -/
structure AtC (K : PySem.W.Frag) (mg : Str → Option Value) (base : Heap) (x : Str) (st : Stmt) (ps : List Str) (P : Addr) : Prop where
  ex : ∃ (f : Addr) (oc : Value) (od : Option Addr) (kV doc pm : Value) (an : Option Addr) (c : Addr) (ct : Value) (osl : Array (Option Value)),
    K.lookup f = some ⟨oc, od, .func (PySem.W.fnOf x x (defArgs st) (defBody st) (defScope st) .none kV doc pm an (.ref c) ct), osl⟩ ∧ PySem.W.codeIn K (.ref c) x = true ∧ PySem.W.keepIn K (.ref f) = true ∧ mg x = some (.ref f) ∧
    Binds K (PySem.W.fnOf x x (defArgs st) (defBody st) (defScope st) .none kV doc pm an (.ref c) ct) ps [] ∧ LamX.TabB base mg c P
section
variable {P : Program} {w : World} {K : PySem.W.Frag} {mg : Str → Option Value} {base : Heap}
theorem AtC.ok {x : Str} {st : Stmt} {N ps : List Str} {k : Nat} {sp : Sp} {PA : Addr} (a : AtC K mg base x st ps PA) (S : FnScope N ps (defScope st)) (len : ∀ vs H Q E, sp vs H Q E → vs.length = ps.length)
    (hbody : ∀ (f c : Addr) (A : Around) (outer : List Env) (s : Shared) (H : Hp) (vs : List V) (Q : VK) (E : XK), GxR.TabB base mg c PA → Room k (A.deeper (envOfC x (defScope st) s.heap.objs.size f (.ref c))) → sp vs H Q E →
      ∃ t, PSs (cxOf CX0 P w K mg base N x (defScope st) f (.ref c) A outer s H E).nox (defBody st) t ∧ t { nx := fun _ H' => Q .non H', rt := Q } (L2.start N vs) H) : Def P w K mg base CX0 (k + 1) x ps sp := by
  obtain ⟨f, oc, od, kV, doc, pm, an, c, ct, osl, lk, hcd, kp, m, b, tb⟩ := a.ex
  refine ⟨f, _, ⟨len, ?_⟩, m, kp, b, oc, od, osl, lk⟩
  intro A outer s H args us vs Q E hr e0 hb r hsp
  apply LamX.run_ofS lk hcd S hr e0 hb r (len _ _ _ _ hsp)
  intro hr'
  obtain ⟨t, ht, hq⟩ := hbody f c A outer s H vs Q E ⟨tb.code, tb.bm, tb.gP⟩ hr' hsp
  exact ⟨t, ht.nox, hq⟩
end
/-- the name of the code objects of the generators in the def x -/
def qGen (x : Str) (st : Stmt) : Str := (envOfC x (defScope st) 0 0 .none).qual ++ "<genexpr>"
end BK
set_option Elab.async false
set_option linter.all false
set_option maxRecDepth 100000
set_option maxHeartbeats 4000000
/-! KitP: data of ints and tuples: compared, shown. -/
namespace BK
open PySem PySem.Spec PyProof.Rows L2 LamX
theorem ifY {c : Bool} {A B : Prop} (e : c = true) (h : A) : if c = true then A else B := by rw [if_pos e]; exact h
theorem ifN {c : Bool} {A B : Prop} (e : c = false) (h : B) : if c = true then A else B := by rw [if_neg (by rw [e]; decide)]; exact h
mutual
theorem dp_of {K : PySem.W.Frag} {H : Hp} : ∀ {v : V} {d : PyData}, Rep K H v d → Dp K H v d
  | _, _, .non => .non
  | _, _, .bl b => .bl b
  | _, _, .int i => .int i
  | _, _, .str x => .str x
  | _, _, .lst h r => .lst h (dpAll_of r)
  | _, _, .tup h r => .tup h (dpAll_of r)
theorem dpAll_of {K : PySem.W.Frag} {H : Hp} : ∀ {vs : List V} {ds : List PyData}, RepAll K H vs ds → DpAll K H vs ds
  | _, _, .nil => .nil
  | _, _, .cons h r => .cons (dp_of h) (dpAll_of r)
end
/-- ints and tuples of such, of depth k at most -/
inductive IT : Nat → PyData → Prop
  | int (k : Nat) (i : Int) : IT k (.int i)
  | tup {k : Nat} {ds : List PyData} (h : ∀ d ∈ ds, IT k d) : IT (k + 1) (.tuple ds)
theorem IT.mono {k j : Nat} {d : PyData} (h : IT k d) (e : k ≤ j) : IT j d := by
  induction h generalizing j with
  | int k i => exact .int j i
  | tup h ih =>
    obtain ⟨m, rfl⟩ : ∃ m, j = m + 1 := ⟨j - 1, by omega⟩
    exact .tup fun d hd => ih d hd (by omega)
theorem lay_all : ∀ {ds : List PyData}, (∀ d ∈ ds, d.canLay0 = true) → PyData.canLayAll0 ds = true
  | [], _ => by simp [PyData.canLayAll0]
  | d :: ds, h => by
    simp only [PyData.canLayAll0, Bool.and_eq_true]
    exact ⟨h d List.mem_cons_self, lay_all fun x hx => h x (List.mem_cons_of_mem _ hx)⟩
theorem depAll {k : Nat} : ∀ {ds : List PyData}, (∀ d ∈ ds, d.depth ≤ k) → PyData.depthAll ds ≤ k
  | [], _ => by simp [PyData.depthAll]
  | d :: ds, h => by
    simp only [PyData.depthAll]
    exact Nat.max_le.2 ⟨h d (List.mem_cons_self ..), depAll fun x hx => h x (List.mem_cons_of_mem _ hx)⟩
theorem IT.lay {k : Nat} {d : PyData} (h : IT k d) : d.canLay0 = true ∧ d.depth ≤ k := by
  induction h with
  | int k i => exact ⟨by simp [PyData.canLay0], by simp [PyData.depth]⟩
  | tup h ih =>
    refine ⟨by simp only [PyData.canLay0]; exact lay_all fun d hd => (ih d hd).1, ?_⟩
    simp only [PyData.depth]
    have := depAll fun d hd => (ih d hd).2
    omega
theorem IT.shaped {k : Nat} {d : PyData} (h : IT k d) (l : k ≤ 64) : SeqAt.shaped d = true := by
  obtain ⟨a, b⟩ := h.lay
  simp only [SeqAt.shaped, Bool.and_eq_true, decide_eq_true_eq]
  exact ⟨a, by omega⟩
theorem eqvAll_it {k : Nat} : ∀ {ds es : List PyData}, (∀ d ∈ ds, ∀ e, ∀ j, IT j e → (PyData.eqv d e = true ↔ d = e)) → (∀ e ∈ es, IT k e) → (PyData.eqvAll ds es = true ↔ ds = es)
  | [], [], _, _ => by simp [PyData.eqvAll]
  | [], _ :: _, _, _ => by simp [PyData.eqvAll]
  | _ :: _, [], _, _ => by simp [PyData.eqvAll]
  | d :: ds, e :: es, h, g => by
    rw [PyData.eqvAll, Bool.and_eq_true, h d List.mem_cons_self e k (g e List.mem_cons_self), eqvAll_it (fun x hx => h x (List.mem_cons_of_mem _ hx)) (fun x hx => g x (List.mem_cons_of_mem _ hx))]
    simp
theorem IT.eqv {k : Nat} {d : PyData} (h : IT k d) : ∀ (e : PyData) (j : Nat), IT j e → (PyData.eqv d e = true ↔ d = e) := by
  induction h with
  | int k i =>
    intro e j he
    cases he with
    | int _ n => simp [PyData.eqv]
    | tup _ => simp [PyData.eqv]
  | tup h ih =>
    intro e j he
    cases he with
    | int _ n => simp [PyData.eqv]
    | tup g =>
      simp only [PyData.eqv, PyData.tuple.injEq]
      exact eqvAll_it ih g
theorem it_ints {k : Nat} (ws : List Int) : IT (k + 1) (dW ws) := .tup fun d hd => by
  obtain ⟨i, _, rfl⟩ := List.mem_map.mp hd
  exact .int _ i
theorem it_nats {k : Nat} (l : List Nat) : IT (k + 1) (dN l) := .tup fun d hd => by
  obtain ⟨i, _, rfl⟩ := List.mem_map.mp hd
  exact .int _ _
theorem it_trm {k : Nat} (t : Trm) : IT (k + 2) (dTm t) := .tup fun d hd => by
  simp only [List.mem_cons, List.not_mem_nil, or_false] at hd
  rcases hd with rfl | rfl
  · exact .int _ _
  · exact it_ints _
theorem it_trms {k : Nat} (ts : List Trm) : IT (k + 3) (dTs ts) := .tup fun d hd => by
  obtain ⟨t, _, rfl⟩ := List.mem_map.mp hd
  exact it_trm t
theorem it_sum {k : Nat} (s : List Trm × Int) : IT (k + 4) (dSm s) := .tup fun d hd => by
  simp only [List.mem_cons, List.not_mem_nil, or_false] at hd
  rcases hd with rfl | rfl
  · exact it_trms _
  · exact .int _ _
theorem inj_map {α β : Type} {f : α → β} (h : ∀ a b, f a = f b → a = b) : ∀ {xs ys : List α}, xs.map f = ys.map f → xs = ys
  | [], [], _ => rfl
  | [], _ :: _, e => by simp at e
  | _ :: _, [], e => by simp at e
  | x :: xs, y :: ys, e => by
    simp only [List.map_cons, List.cons.injEq] at e
    rw [h x y e.1, inj_map h e.2]
theorem dW_inj {a b : List Int} (h : dW a = dW b) : a = b := inj_map (f := PyData.int) (fun a b e => by cases e; rfl) (PyData.tuple.inj h)
theorem dTm_inj {a b : Trm} (h : dTm a = dTm b) : a = b := by
  have h1 := PyData.tuple.inj h
  simp only [List.cons.injEq, PyData.int.injEq, and_true] at h1
  exact Prod.ext (by omega) (dW_inj h1.2)
theorem dTs_inj {a b : List Trm} (h : dTs a = dTs b) : a = b := inj_map (f := dTm) (fun _ _ e => dTm_inj e) (PyData.tuple.inj h)
theorem dSm_inj {a b : List Trm × Int} (h : dSm a = dSm b) : a = b := by
  have h1 := PyData.tuple.inj h
  simp only [List.cons.injEq, PyData.int.injEq, and_true] at h1
  exact Prod.ext (dTs_inj h1.1) h1.2
/-! ### shown -/
/-- what may be shown: its text, its depth -/
structure Shw (d : PyData) (n k : Nat) : Prop where
  fine : Fine d n
  dep : d.depth ≤ k
theorem Shw.mono {d : PyData} {n k m j : Nat} (h : Shw d n k) (e : n ≤ m) (f : k ≤ j) : Shw d m j := ⟨h.fine.mono e, Nat.le_trans h.dep f⟩
theorem shw_list {ds : List PyData} {m n k : Nat} (h : ∀ d ∈ ds, Shw d m k) (e : ds.length * m + ds.length * 2 + 4 + m ≤ n) : Shw (.list ds) n (k + 1) := by
  refine ⟨fine_list (fun d hd => (h d hd).fine) e, ?_⟩
  simp only [PyData.depth]
  have := depAll fun d hd => (h d hd).dep
  omega
theorem shw_tup {ds : List PyData} {m n k : Nat} (h : ∀ d ∈ ds, Shw d m k) (e : ds.length * m + ds.length * 2 + 4 + m ≤ n) : Shw (.tuple ds) n (k + 1) := by
  refine ⟨fine_tup (fun d hd => (h d hd).fine) e, ?_⟩
  simp only [PyData.depth]
  have := depAll fun d hd => (h d hd).dep
  omega
theorem shw_bl (b : Bool) : Shw (.bool b) 41 0 := ⟨(fine_bl b).mono (by decide), by simp [PyData.depth]⟩
theorem fine_intB {i : Int} (h : i.natAbs < 10 ^ 40) : Fine (.int i) 41 := by
  refine ⟨?_, ?_, by simp [PyData.depth]⟩
  · simp only [PyData.showable, decide_eq_true_eq]
    have h1 : i.natAbs.log2 ≤ (10 ^ 40 : Nat).log2 := by
      by_cases hz : i.natAbs = 0
      · rw [hz]; decide
      · exact (Nat.le_log2 (by decide)).2 (Nat.le_trans (Nat.log2_self_le hz) (Nat.le_of_lt h))
    have h2 : (10 ^ 40 : Nat).log2 < 1920 := by decide +kernel
    omega
  · rw [PyData.shown_int, PySem.ofString_length]
    exact int_text_length_le10 (k := 40) (by decide) h
theorem shw_int {i : Int} (h : i.natAbs < 10 ^ 40) : Shw (.int i) 41 0 := ⟨fine_intB h, by simp [PyData.depth]⟩
section
variable {X : Cx} {pins : List (Addr × Obj)} {σ : L2.St} {H : Hp} {s : Shared}
/-- repr(v) of plain data -/
theorem call_reprV (hg : X.A.guards = some []) (hu : X.A.units + 110 < cLine) :
    CallR X (.builtin "repr") (fun xs H Q => ∃ (v : V) (d : PyData) (n : Nat), xs = [v] ∧ Rep X.K H v d ∧ Fine d n ∧ n ≤ 16777216 ∧ d.depth ≤ 100 ∧ Q (.str d.shown) H) := by
  intro pins s σ H xs us Q I r h
  obtain ⟨v, d, n, rfl, hr, hf, hn, hd, q⟩ := h
  cases r with
  | cons rx rr =>
    cases rr
    have hsz : d.shown.length ≤ sizeLine := Nat.le_trans hf.len (by rw [sizeLine_eq]; exact hn)
    have big : ∀ (a : Addr) (as : List Addr), Reads s.heap (.ref a) d as → d.hasDict = false → wpAny (model X.prog X.w) X.A (call (.builtin "repr") [.ref a]) (EP X pins σ Q) X.xe s := fun a as hR nd => by
      refine repr_of_reads' hR hf.sh (PyData.noDict_hsm nd) hg (by omega) (fun _ _ e => e) (fun h' u tk hk => ?_) hsz
      exact ⟨.str d.shown, H, I.kept (t' := tk) hk, ⟨u, rfl⟩, q⟩
    have nd := hr.noDict
    obtain ⟨as, hR⟩ := reads_of I hr rx
    have fin : ∀ {x : Str}, x = d.shown → EP X pins σ Q (.str x s.toks) { s with toks := s.toks + 1 } := fun {x} e => by
      rw [e]
      exact ⟨.str d.shown, H, I.tok _, ⟨_, rfl⟩, q⟩
    cases hr with
    | non =>
      cases rx
      exact PySem.P.repr_of_none (fin (by rw [PyData.shown_none]))
    | bl b =>
      cases rx
      exact PySem.P.repr_of_bool (fin (by rw [PyData.shown_bool]))
    | int i =>
      obtain ⟨t, rfl⟩ := rx
      have z := hf.sh
      simp only [PyData.showable, decide_eq_true_eq] at z
      exact PySem.P.repr_of_int z (fin (by rw [PyData.shown_int]))
    | str x =>
      obtain ⟨t, rfl⟩ := rx
      rw [PyData.shown_str] at hsz
      exact PySem.P.repr_of_str (fin (by rw [PyData.shown_str])) hsz
    | lst h r =>
      cases rx
      exact big _ as hR nd
    | tup h r =>
      cases rx
      exact big _ as hR nd
end
/-! ### a list is written -/
/-- no list within -/
def noL : PyData → Bool
  | .list _ => false
  | .tuple ds => noLA ds
  | _ => true
where
  noLA : List PyData → Bool
  | [] => true
  | d :: ds => noL d && noLA ds
mutual
theorem rep_wr {K : PySem.W.Frag} {H : Hp} {l : Addr} {ys : List V} {o : HO} (h : H l = some (.lst ys)) : ∀ {v : V} {d : PyData}, Rep K H v d → noL d = true → Rep K (upd H l o) v d
  | _, _, .non, _ => .non
  | _, _, .bl b, _ => .bl b
  | _, _, .int i, _ => .int i
  | _, _, .str x, _ => .str x
  | _, _, .lst _ _, n => by simp [noL] at n
  | _, _, .tup (a := a) hs r, n => by
    refine .tup ?_ (rep_wrA h r (by simpa [noL] using n))
    rcases hs with (q | ⟨o', q⟩) | q
    · exact .inl (.inl (by rw [upd_ne (fun z => by rw [z, h] at q; cases q)]; exact q))
    · exact .inl (.inr ⟨o', by rw [upd_ne (fun z => by rw [z, h] at q; cases q)]; exact q⟩)
    · exact .inr q
theorem rep_wrA {K : PySem.W.Frag} {H : Hp} {l : Addr} {ys : List V} {o : HO} (h : H l = some (.lst ys)) : ∀ {vs : List V} {ds : List PyData}, RepAll K H vs ds → noL.noLA ds = true → RepAll K (upd H l o) vs ds
  | _, _, .nil, _ => .nil
  | _, _, .cons hd r, n => by
    simp only [noL.noLA, Bool.and_eq_true] at n
    exact .cons (rep_wr h hd n.1) (rep_wrA h r n.2)
end
theorem noLA_all : ∀ {ds : List PyData}, (∀ d ∈ ds, noL d = true) → noL.noLA ds = true
  | [], _ => rfl
  | d :: ds, h => by
    simp only [noL.noLA, Bool.and_eq_true]
    exact ⟨h d List.mem_cons_self, noLA_all fun x hx => h x (List.mem_cons_of_mem _ hx)⟩
theorem IT.noL {k : Nat} {d : PyData} (h : IT k d) : BK.noL d = true := by
  induction h with
  | int k i => rfl
  | tup h ih =>
    show noL.noLA _ = true
    exact noLA_all ih
theorem rep_wrote {K : PySem.W.Frag} {H : Hp} {l : Addr} {ys zs : List V} {o : HO} {ts : List PyData} (h : H l = some (.lst ys)) (r : RepAll K H zs ts) (n : ∀ d ∈ ts, ∃ k, IT k d) : RepAll K (upd H l o) zs ts :=
  rep_wrA h r (noLA_all fun d hd => (n d hd).elim fun _ z => z.noL)
end BK
set_option Elab.async false
set_option linter.all false
set_option maxRecDepth 100000
set_option maxHeartbeats 4000000
/-! KitQ: tests with and. -/
namespace BK
open PySem PySem.Spec PyProof.Rows L2
/-- a and b and ..., as a test -/
structure PN (X : Cx) (pos : Pos) (es : List Expr) (t : TT) : Prop where
  run : ∀ (whole : Sem Value) (pins : List (Addr × Obj)) (s : Shared) (σ : L2.St) (H : Hp) (Q : Bool → Hp → Prop), Inv X pins σ H s → t σ H Q →
    wpAny (model X.prog X.w) X.A (isTrue (.BoolOp .And es pos) X.env whole) (fun d s' => ∃ H', Inv X pins σ H' s' ∧ Q d H') X.xe s
def tAnd0 : TT := fun _ H Q => Q true H
def tAnd1 (t u : TT) : TT := fun σ H Q => t σ H fun c H1 => if c = true then u σ H1 Q else Q false H1
section
variable {X : Cx} {pos : Pos} {e : Expr} {es : List Expr} {t u : TT}
theorem pn_nil : PN X pos [] tAnd0 := ⟨fun _ _ _ _ H _ I h => isTrue_and_nil ⟨H, I, h⟩⟩
theorem pn_cons (a : PT X e t) (r : PN X pos es u) : PN X pos (e :: es) (tAnd1 t u) := by
  constructor
  intro whole pins s σ H Q I h
  apply isTrue_and
  apply thn (a.run pins s σ H _ I h)
  rintro c s1 ⟨H1, I1, q⟩
  cases c with
  | false => exact ⟨H1, I1, q⟩
  | true => exact r.run whole pins s1 σ H1 Q I1 q
theorem pt_and (o : PN X pos es t) : PT X (.BoolOp .And es pos) t := ⟨fun pins s σ H Q I h => o.run _ pins s σ H Q I h⟩
end
end BK
set_option Elab.async false
set_option linter.all false
set_option maxRecDepth 100000
set_option maxHeartbeats 4000000
/-! Q1: the program: what integers, rows are. -/
namespace K2
open PySem PySem.Spec PyProof.Rows L2 BK LamX
def integer : PyData → Bool
  | .int _ => true
  | _ => false
def within : PyData → Int → Int → Bool
  | .int i, lo, hi => decide (lo ≤ i) && decide (i ≤ hi)
  | _, _, _ => false
def fromI : PyData → Int → Bool
  | .int i, lo => decide (i ≥ lo)
  | _, _ => false
def isRow : PyData → Int → Bool
  | .tuple ds, n => decide ((ds.length : Int) = n)
  | _, _ => false
def spInteger (K : PySem.W.Frag) : Sp := fun vs H Q _ => ∃ (x : V) (d : PyData), vs = [x] ∧ Rep K H x d ∧ Q (.bl (integer d)) H
def spWithin (K : PySem.W.Frag) : Sp := fun vs H Q _ => ∃ (x : V) (d : PyData) (lo hi : Int), vs = [x, .int lo, .int hi] ∧ Rep K H x d ∧ Q (.bl (within d lo hi)) H
def spFrom (K : PySem.W.Frag) : Sp := fun vs H Q _ => ∃ (x : V) (d : PyData) (lo : Int), vs = [x, .int lo] ∧ Rep K H x d ∧ Q (.bl (fromI d lo)) H
def spRow (K : PySem.W.Frag) : Sp := fun vs H Q _ => ∃ (x : V) (d : PyData) (n : Int), vs = [x, .int n] ∧ Rep K H x d ∧ Q (.bl (isRow d n)) H
section
variable {P : Program} {w : World} {K : PySem.W.Frag} {mg : Str → Option Value} {base : Heap}
theorem scInteger : FnScope ["value"] ["value"] (defScope sInteger) := ⟨rfl, rfl, rfl, by decide +kernel, rfl, by decide +kernel, by decide +kernel⟩
theorem def_integer (B : Bl mg) (F : At K mg "is_integer" sInteger ["value"]) : Def P w K mg base CX0 1 "is_integer" ["value"] (spInteger K) := by
  refine F.ok scInteger (fun vs H Q E h => ?_) (fun f cdv A outer s H vs Q E hr h => ?_)
  · obtain ⟨x, d, rfl, _⟩ := h
    rfl
  · obtain ⟨x, d, rfl, hx, q⟩ := h
    refine ⟨_, pss_one (ps_ret (pe_and (pe_callB call_isi (by rfl) B.isi sIns (pa_cons (pv 0) (pa_cons (pe_ty (by rfl) B.int sInt) pa_nil)))
      (pe_one (pe_not (pe_callB call_isi (by rfl) B.isi sIns (pa_cons (pv 0) (pa_cons (pe_ty (by rfl) B.bool sBool) pa_nil))))))), ?_⟩
    refine ⟨_, rfl, _, _, _, _, _, rfl, .ty "int", tyx_of hx, kit_ty (kit_int _), _, rfl, ?_⟩
    cases d with
    | int i => exact ⟨_, rfl, _, _, _, _, _, rfl, .ty "bool", tyx_of hx, kit_ty (kit_bool _), _, rfl, q⟩
    | bool b => exact ⟨_, rfl, _, _, _, _, _, rfl, .ty "bool", tyx_of hx, kit_ty (kit_bool _), _, rfl, q⟩
    | none => exact q
    | str _ => exact q
    | list _ => exact q
    | tuple _ => exact q
    | dict _ => exact q
theorem scWithin : FnScope ["value", "low", "high"] ["value", "low", "high"] (defScope sWithin) := ⟨rfl, rfl, rfl, by decide +kernel, rfl, by decide +kernel, by decide +kernel⟩
theorem def_within (D1 : Def P w K mg base CX0 1 "is_integer" ["value"] (spInteger K)) (F : At K mg "is_within" sWithin ["value", "low", "high"]) : Def P w K mg base CX0 2 "is_within" ["value", "low", "high"] (spWithin K) := by
  refine F.ok scWithin (fun vs H Q E h => ?_) (fun f cdv A outer s H vs Q E hr h => ?_)
  · obtain ⟨x, d, lo, hi, rfl, _⟩ := h
    rfl
  · obtain ⟨x, d, lo, hi, rfl, hx, q⟩ := h
    refine ⟨_, pss_one (ps_ret (pe_and (pe_def D1 hr (by rfl) pass0 (pa_cons (pv 0) pa_nil)) (pe_one (pe_chain op_le op_le (pv 1) (pv 0) (pv 2))))), ?_⟩
    refine ⟨_, rfl, x, d, rfl, hx, _, rfl, ?_⟩
    cases d with
    | int i =>
      cases hx
      refine ⟨_, rfl, _, rfl, _, _, rfl, rfl, _, rfl, ?_⟩
      by_cases h1 : lo ≤ i
      · have e : within (.int i) lo hi = decide (i ≤ hi) := by simp [within, h1]
        rw [if_pos (decide_eq_true h1)]
        rw [e] at q
        exact ⟨_, rfl, _, _, rfl, rfl, q⟩
      · have e : within (.int i) lo hi = false := by simp [within, h1]
        rw [if_neg (by rw [decide_eq_false h1]; decide)]
        rw [e] at q
        exact q
    | _ => exact q
theorem scFrom : FnScope ["value", "low"] ["value", "low"] (defScope sFrom) := ⟨rfl, rfl, rfl, by decide +kernel, rfl, by decide +kernel, by decide +kernel⟩
theorem def_from (D1 : Def P w K mg base CX0 1 "is_integer" ["value"] (spInteger K)) (F : At K mg "is_from" sFrom ["value", "low"]) : Def P w K mg base CX0 2 "is_from" ["value", "low"] (spFrom K) := by
  refine F.ok scFrom (fun vs H Q E h => ?_) (fun f cdv A outer s H vs Q E hr h => ?_)
  · obtain ⟨x, d, lo, rfl, _⟩ := h
    rfl
  · obtain ⟨x, d, lo, rfl, hx, q⟩ := h
    refine ⟨_, pss_one (ps_ret (pe_and (pe_def D1 hr (by rfl) pass0 (pa_cons (pv 0) pa_nil)) (pe_one (pe_cmpR op_ge (pv 0) (pv 1) (nomark _))))), ?_⟩
    refine ⟨_, rfl, x, d, rfl, hx, _, rfl, ?_⟩
    cases d with
    | int i =>
      cases hx
      exact ⟨_, rfl, _, rfl, _, _, rfl, rfl, q⟩
    | _ => exact q
theorem scRow : FnScope ["value", "many"] ["value", "many"] (defScope sRow) := ⟨rfl, rfl, rfl, by decide +kernel, rfl, by decide +kernel, by decide +kernel⟩
theorem def_row (B : Bl mg) (F : At K mg "is_row" sRow ["value", "many"]) : Def P w K mg base CX0 1 "is_row" ["value", "many"] (spRow K) := by
  refine F.ok scRow (fun vs H Q E h => ?_) (fun f cdv A outer s H vs Q E hr h => ?_)
  · obtain ⟨x, d, n, rfl, _⟩ := h
    rfl
  · obtain ⟨x, d, n, rfl, hx, q⟩ := h
    refine ⟨_, pss_one (ps_ret (pe_and (pe_callB call_isi (by rfl) B.isi sIns (pa_cons (pv 0) (pa_cons (pe_ty (by rfl) B.tup sTup) pa_nil)))
      (pe_one (pe_cmpR op_eq (pe_callB call_len_seq (by rfl) B.len sLen (pa_cons (pv 0) pa_nil)) (pv 1) (nomark _))))), ?_⟩
    refine ⟨_, rfl, _, _, _, _, _, rfl, .ty "tuple", tyx_of hx, kit_ty (kit_tuple _), _, rfl, ?_⟩
    cases hT : isT d with
    | false =>
      have e : isRow d n = false := by cases d <;> first | rfl | cases hT
      rw [e] at q
      exact q
    | true =>
      cases hx with
      | tup hs ra =>
        rename_i a xs ds
        have hl := ra.length
        refine ⟨_, rfl, a, _, rfl, .inr hs, _, rfl, rfl, ?_⟩
        have e : decide (V.int (xs.length : Nat) = V.int n) = isRow (.tuple ds) n := by
          show _ = decide ((ds.length : Int) = n)
          rw [← hl]
          by_cases z : ((xs.length : Nat) : Int) = n
          · rw [decide_eq_true z, z]
            exact decide_eq_true rfl
          · rw [decide_eq_false z]
            exact decide_eq_false fun q => z (V.int.inj q)
        rw [← e] at q
        exact q
      | _ => cases hT
end
end K2
set_option Elab.async false
set_option linter.all false
set_option maxRecDepth 100000
set_option maxHeartbeats 4000000
/-! Q2: the program: sizes, rows. -/
namespace K2
open PySem PySem.Spec PyProof.Rows L2 BK LamX
structure SzOk (ss : List Nat) : Prop where
  len : ss.length ≤ 100
  all : ∀ s ∈ ss, 1 ≤ s ∧ s ≤ 200
theorem yes {σ : L2.St} {H : Hp} {C : Bool → Hp → Prop} (h : C true H) : tYes σ H C := h
theorem repN {K : PySem.W.Frag} {H : Hp} {v : V} {l : List Nat} (h : Rep K H v (dN l)) : ∃ a, v = .ref a ∧ SqT K H a (l.map fun n => V.int (n : Nat)) := by
  unfold dN at h
  cases h with
  | tup hs ra =>
    refine ⟨_, rfl, ?_⟩
    rename_i a xs
    have : xs = l.map fun n => V.int (n : Nat) := by
      clear hs
      induction l generalizing xs with
      | nil => cases ra; rfl
      | cons n l ih =>
        cases ra with
        | cons h r =>
          cases h
          rw [ih r]
          rfl
    rw [← this]
    exact hs
theorem repW {K : PySem.W.Frag} {H : Hp} {v : V} {l : List Int} (h : Rep K H v (dW l)) : ∃ a, v = .ref a ∧ SqT K H a (l.map V.int) := by
  unfold dW at h
  cases h with
  | tup hs ra =>
    refine ⟨_, rfl, ?_⟩
    rename_i a xs
    have : xs = l.map V.int := by
      clear hs
      induction l generalizing xs with
      | nil => cases ra; rfl
      | cons n l ih =>
        cases ra with
        | cons h r =>
          cases h
          rw [ih r]
          rfl
    rw [← this]
    exact hs
theorem nat_at {l : List Nat} {i : Nat} {x : V} (h : (l.map fun n => V.int ((n : Nat) : Int))[i]? = some x) : ∃ n, l[i]? = some n ∧ x = .int (n : Nat) := by
  rw [List.getElem?_map] at h
  cases e : l[i]? with
  | none => rw [e] at h; cases h
  | some u => rw [e] at h; exact ⟨u, rfl, (Option.some.inj h).symm⟩
theorem int_at {l : List Int} {i : Nat} {x : V} (h : (l.map V.int)[i]? = some x) : ∃ n, l[i]? = some n ∧ x = .int n := by
  rw [List.getElem?_map] at h
  cases e : l[i]? with
  | none => rw [e] at h; cases h
  | some u => rw [e] at h; exact ⟨u, rfl, (Option.some.inj h).symm⟩
/-- a def that hands its sizes on -/
def spNeedSizes (K : PySem.W.Frag) (T : List (Addr × Str)) : Sp := fun vs H Q _ => ∃ (x : V) (ss : List Nat), vs = [x] ∧ Rep K H x (dN ss) ∧ SzOk ss ∧ Tabs T H ∧ ∀ H', Gq T H H' → Q x H'
def spRowOf (K : PySem.W.Frag) (T : List (Addr × Str)) : Sp := fun vs H Q _ => ∃ (x y : V) (ss r : List Nat), vs = [x, y] ∧ Rep K H x (dN ss) ∧ Rep K H y (dN r) ∧ RowOk ss r ∧ Tabs T H ∧ ∀ H', Gq T H H' → Q (.bl true) H'
def spNeedRow (K : PySem.W.Frag) (T : List (Addr × Str)) : Sp := fun vs H Q _ => ∃ (x y : V) (ss r : List Nat), vs = [x, y] ∧ Rep K H x (dN ss) ∧ Rep K H y (dN r) ∧ RowOk ss r ∧ Tabs T H ∧ ∀ H', Gq T H H' → Q y H'
section
variable {P : Program} {w : World} {K : PySem.W.Frag} {mg : Str → Option Value} {base : Heap} {T : List (Addr × Str)}
theorem scNeedSizes : FnScope ["sizes", "many"] ["sizes"] (defScope sNeedSizes) := ⟨rfl, rfl, rfl, by decide +kernel, rfl, by decide +kernel, by decide +kernel⟩
theorem def_needSizes {PA : Addr} (B : Bl mg) (c1 : ∃ t, mg "MOST_CHOICES" = some (.int 100 t)) (c2 : ∃ t, mg "MOST_VALUES" = some (.int 200 t)) (W : Def P w K mg base CX0 2 "is_within" ["value", "low", "high"] (spWithin K))
    (F : AtC K mg base "need_sizes" sNeedSizes ["sizes"] PA) (uq : Uq T) (mT : (PA, qGen "need_sizes" sNeedSizes) ∈ T) : Def P w K mg base CX0 4 "need_sizes" ["sizes"] (spNeedSizes K T) := by
  refine F.ok scNeedSizes (fun vs H Q E h => ?_) (fun f c A outer s H vs Q E TB hr h => ?_)
  · obtain ⟨x, ss, rfl, _⟩ := h
    rfl
  · obtain ⟨x, ss, rfl, hx, ok, tb, q⟩ := h
    obtain ⟨t1, m1⟩ := c1
    obtain ⟨t2, m2⟩ := c2
    refine ⟨_, pss_cons (ps_if (pt_or (po_cons (pt_not (pt_val (pe_callB call_isi (by rfl) B.isi sIns (pa_cons (pv 0) (pa_cons (pe_ty (by rfl) B.tup sTup) pa_nil)))))
          (po_cons (pt_cmpR op_gt (pe_callB call_len_seq (by rfl) B.len sLen (pa_cons (pv 0) pa_nil)) (pe_glob (v := .int 100) (by rfl) m1 ⟨_, rfl⟩) (nomark _)) po_nil)))
        (pss_one ps_never) pss_nil)
      (pss_cons (ps_if (pt_not (pt_val (pe_allX (own := [("many", 1)]) (g := gName 1) (tt := tYes) hr (by rfl) B.all sAll TB rfl (genN_by (N := ["sizes", "many"]) (sc := defScope sNeedSizes) (by decide +kernel)) scNeedSizes.nd (pi_tup (pv 0))
            (fun _ _ _ _ _ _ _ => pg_name (i := 1) scNeedSizes.nd rfl (Or.inl rfl)) (fun _ _ _ _ _ _ _ => pts_nil)
            (fun B s H C code fp pn hrB => pe_def W hrB (by rfl) pass0 (pa_cons (pv 1) (pa_cons pe_int (pa_cons (pe_glob (v := .int 200) (by rfl) m2 ⟨_, rfl⟩) pa_nil)))))))
        (pss_one ps_never) pss_nil)
      (pss_one (ps_ret (pv 0)))), ?_⟩
    obtain ⟨a, rfl, hs⟩ := repN hx
    have l1 : ss.length ≤ 100 := ok.len
    refine ⟨_, rfl, _, _, _, _, _, rfl, .ty "tuple", tyx_of hx, kit_ty (kit_tuple _), _, rfl, ?_⟩
    refine ⟨_, rfl, a, _, rfl, .inr hs, _, _, rfl, rfl, _, rfl, ?_⟩
    rw [List.length_map, decide_eq_false (show ¬ ((ss.length : Nat) : Int) > 100 by omega)]
    refine ⟨_, rfl, a, rfl, ⟨_, hs⟩, tb _ mT, fun H2 gr => ?_⟩
    have g2 := Gq.grow uq mT tb gr
    refine all_tup (xs := ss.map fun n => V.int (n : Nat)) (K := K) (fun i H' => H' = H2) rfl (fun i H' _ e => by rw [e]; exact sqt_ext g2.ext hs) (fun i x H' Po hi e po => ?_) fun H' e => ?_
    · subst e
      obtain ⟨n, hn, rfl⟩ := nat_at hi
      have hb := ok.all n (List.mem_of_getElem? hn)
      refine ⟨rfl, _, rfl, _, _, _, _, rfl, .int _, ?_⟩
      have e : within (.int (n : Nat)) 1 200 = true := by
        simp only [within, Bool.and_eq_true, decide_eq_true_eq]
        omega
      rw [e]
      exact po true H' rfl
    · subst e
      exact ⟨_, rfl, _, rfl, q H' g2⟩
theorem all_zip {a b : Addr} {xs ys : List V} {g : TG} {te : TE} {σ : L2.St} {vs : List Nat} {H2 : Hp} {b0 : Bool} {Fin : Bool → Hp → Prop} (hl : xs.length = ys.length) (Pv : Nat → Hp → Prop) (h0 : Pv 0 H2) (hq : ∀ i H, Pv i H → SqT K H a xs ∧ SqT K H b ys)
    (hs : ∀ (i : Nat) (x y : V) (U : Addr) (H : Hp) (Po : V → Hp → Prop), xs[i]? = some x → ys[i]? = some y → Pv i H → H U = none → (∀ b H4, (if b = b0 then Pv (i + 1) H4 else Fin b H4) → Po (.bl b) H4) → g (.ref U) (wipe σ vs) (upd H U (.tup [x, y])) fun σ2 H2 => wipe σ2 vs = wipe σ vs ∧ te σ2 H2 Po)
    (hd : ∀ H, Pv xs.length H → Fin b0 H) : ∃ (N : Nat) (Wt : Nat → Nat → Nat → Hp → Prop), (∃ r, Wt 0 r 0 H2) ∧ Turns (RZ.ItzT K a b) g tYes te σ vs Wt (ydB b0 Wt Fin) (fun _ H => Fin b0 H) N := by
  refine all_n xs.length Pv h0 (fun i H hi p => ?_) (fun H p => ⟨xs, ys, (hq _ H p).1, (hq _ H p).2, .inl (Nat.le_refl _)⟩) (fun i H x H' Po hi p y k => ?_) hd
  · exact ⟨xs, ys, xs[i], ys[i], (hq i H p).1, (hq i H p).2, by simp [hi], by simp [hl ▸ hi]⟩
  · obtain ⟨U, x', y', rfl, hT, rfl, f1, f2⟩ := y
    exact hs i x' y' U H Po (f1 xs (hq i H p).1) (f2 ys (hq i H p).2) p hT k
theorem scRowOf : FnScope ["sizes", "row", "value", "many"] ["sizes", "row"] (defScope sRowOf) := ⟨rfl, rfl, rfl, by decide +kernel, rfl, by decide +kernel, by decide +kernel⟩
theorem def_rowOf {PA : Addr} (B : Bl mg) (W : Def P w K mg base CX0 2 "is_within" ["value", "low", "high"] (spWithin K)) (R : Def P w K mg base CX0 1 "is_row" ["value", "many"] (spRow K))
    (F : AtC K mg base "is_row_of" sRowOf ["sizes", "row"] PA) (uq : Uq T) (mT : (PA, qGen "is_row_of" sRowOf) ∈ T) : Def P w K mg base CX0 4 "is_row_of" ["sizes", "row"] (spRowOf K T) := by
  refine F.ok scRowOf (fun vs H Q E h => ?_) (fun f c A outer s H vs Q E TB hr h => ?_)
  · obtain ⟨x, y, ss, r, rfl, _⟩ := h
    rfl
  · obtain ⟨x, y, ss, r, rfl, hx, hy, ok, tb, q⟩ := h
    refine ⟨_, pss_one (ps_ret (pe_and (pe_def R (hr.mono (by decide)) (by rfl) pass0 (pa_cons (pv 1) (pa_cons (pe_callB call_len_seq (by rfl) B.len sLen (pa_cons (pv 0) pa_nil)) pa_nil)))
      (pe_one (pe_allX (own := [("value", 2), ("many", 3)]) (g := gTup K 2 (gCons (gName 2) (gCons (gName 3) gNil))) (tt := tYes) hr (by rfl) B.all sAll TB rfl (genN_by (N := ["sizes", "row", "value", "many"]) (sc := defScope sRowOf) (by decide +kernel)) scRowOf.nd
        (RZ.pi_zipA (by rfl) B.zip (pa_cons (pv 1) (pa_cons (pv 0) pa_nil)))
        (fun _ _ _ _ _ _ _ => pg_tup rfl (pgs_cons (pg_name (i := 2) scRowOf.nd rfl (Or.inl rfl) (.inr rfl)) (pgs_cons (pg_name (i := 3) scRowOf.nd rfl (Or.inl rfl) (.inr rfl)) pgs_nil))) (fun _ _ _ _ _ _ _ => pts_nil)
        (fun B s H C code fp pn hrB => pe_def W hrB (by rfl) pass0 (pa_cons (pv 2) (pa_cons pe_int (pa_cons (pe_op op_sub (pv 3) pe_int) pa_nil)))))))), ?_⟩
    obtain ⟨a, rfl, hs⟩ := repN hx
    obtain ⟨b, rfl, ht⟩ := repN hy
    refine ⟨_, rfl, _, rfl, a, _, rfl, .inr hs, _, _, _, rfl, hy, _, rfl, ?_⟩
    have e : isRow (dN r) ((ss.map fun n => V.int (n : Nat)).length : Nat) = true := by
      show decide _ = true
      rw [decide_eq_true_eq, List.length_map, List.length_map, ok.1]
    rw [e]
    refine ⟨_, rfl, _, rfl, b, a, _, _, rfl, .inr ⟨ht, hs, tb _ mT, fun H2 gr => ?_⟩⟩
    have g2 := Gq.grow uq mT tb gr
    refine all_zip (by rw [List.length_map, List.length_map, ok.1]) (fun i H' => Gq T H H') g2 (fun i H' g => ⟨sqt_ext g.ext ht, sqt_ext g.ext hs⟩) (fun i x y U H' Po hx hy g hU po => ?_) fun H' g => q H' g
    obtain ⟨v, hv, rfl⟩ := nat_at hx
    obtain ⟨n, hn, rfl⟩ := nat_at hy
    obtain ⟨s, e1, lt⟩ := ok.2 i v hv
    rw [hn] at e1
    cases e1
    refine ⟨U, _, rfl, .inl (.inl upd_same), rfl, _, _, rfl, _, _, rfl, rfl, rfl, ?_⟩
    refine ⟨_, rfl, _, rfl, _, _, rfl, rfl, _, _, _, _, rfl, .int _, ?_⟩
    have e : within (.int (v : Nat)) 0 ((n : Int) - 1) = true := by
      simp only [within, Bool.and_eq_true, decide_eq_true_eq]
      omega
    rw [e]
    exact po true _ (g.new hU)
theorem scNeedRow : FnScope ["sizes", "row"] ["sizes", "row"] (defScope sNeedRow) := ⟨rfl, rfl, rfl, by decide +kernel, rfl, by decide +kernel, by decide +kernel⟩
theorem def_needRow (R : Def P w K mg base CX0 4 "is_row_of" ["sizes", "row"] (spRowOf K T)) (F : At K mg "need_row_of" sNeedRow ["sizes", "row"]) : Def P w K mg base CX0 5 "need_row_of" ["sizes", "row"] (spNeedRow K T) := by
  refine F.ok scNeedRow (fun vs H Q E h => ?_) (fun f cdv A outer s H vs Q E hr h => ?_)
  · obtain ⟨x, y, ss, r, rfl, _⟩ := h
    rfl
  · obtain ⟨x, y, ss, r, rfl, hx, hy, ok, tb, q⟩ := h
    refine ⟨_, pss_cons (ps_if (pt_not (pt_val (pe_def R hr (by rfl) pass0 (pa_cons (pv 0) (pa_cons (pv 1) pa_nil))))) (pss_one ps_never) pss_nil) (pss_one (ps_ret (pv 1))), ?_⟩
    exact ⟨_, rfl, _, rfl, _, _, ss, r, rfl, hx, hy, ok, tb, fun H1 g1 => ⟨_, rfl, _, rfl, q H1 g1⟩⟩
end
end K2
set_option Elab.async false
set_option linter.all false
set_option maxRecDepth 100000
set_option maxHeartbeats 4000000
/-! Q3: the program: terms, sums. -/
namespace K2
open PySem PySem.Spec PyProof.Rows L2 BK LamX
section
variable {K : PySem.W.Frag} {H : Hp}
theorem repTm {v : V} {t : Trm} (h : Rep K H v (dTm t)) : ∃ a wv, v = .ref a ∧ SqT K H a [.int (t.1 : Nat), wv] ∧ Rep K H wv (dW t.2) := by
  unfold dTm at h
  cases h with
  | tup hs ra =>
    cases ra with
    | cons h1 r1 =>
      cases r1 with
      | cons h2 r2 =>
        cases r2
        cases h1
        exact ⟨_, _, rfl, hs, h2⟩
theorem repTs {v : V} {ts : List Trm} (h : Rep K H v (dTs ts)) : ∃ a xs, v = .ref a ∧ SqT K H a xs ∧ RepAll K H xs (ts.map dTm) := by
  unfold dTs at h
  cases h with
  | tup hs ra => exact ⟨_, _, rfl, hs, ra⟩
theorem repSm {v : V} {s : List Trm × Int} (h : Rep K H v (dSm s)) : ∃ a tv, v = .ref a ∧ SqT K H a [tv, .int s.2] ∧ Rep K H tv (dTs s.1) := by
  unfold dSm at h
  cases h with
  | tup hs ra =>
    cases ra with
    | cons h1 r1 =>
      cases r1 with
      | cons h2 r2 =>
        cases r2
        cases h2
        exact ⟨_, _, rfl, hs, h1⟩
theorem tm_at {xs : List V} {ts : List Trm} {i : Nat} {x : V} (h : RepAll K H xs (ts.map dTm)) (e : xs[i]? = some x) : ∃ t, ts[i]? = some t ∧ Rep K H x (dTm t) := by
  obtain ⟨d, h1, h2⟩ := BK.rep_at h e
  rw [List.getElem?_map] at h1
  cases q : ts[i]? with
  | none => rw [q] at h1; cases h1
  | some t =>
    rw [q] at h1
    cases h1
    exact ⟨t, rfl, h2⟩
end
theorem drop_at {α : Type} {l : List α} {i : Nat} {x : α} (h : l[i]? = some x) : l.drop i = x :: l.drop (i + 1) := by
  have := List.drop_eq_getElem?_toList_append (l := l) (i := i)
  rw [h] at this
  simpa using this
def spTerms (K : PySem.W.Frag) (T : List (Addr × Str)) : Sp := fun vs H Q _ => ∃ (x y : V) (ss : List Nat) (ts : List Trm), vs = [x, y] ∧ Rep K H x (dN ss) ∧ Rep K H y (dTs ts) ∧ TmOk ss 0 ts ∧ Tabs T H ∧ ∀ H', Gq T H H' → Q (.bl true) H'
def spSum (K : PySem.W.Frag) (T : List (Addr × Str)) : Sp := fun vs H Q _ => ∃ (x y : V) (ss : List Nat) (s : List Trm × Int), vs = [x, y] ∧ Rep K H x (dN ss) ∧ Rep K H y (dSm s) ∧ SumOk ss s ∧ Tabs T H ∧ ∀ H', Gq T H H' → Q (.bl true) H'
section
variable {P : Program} {w : World} {K : PySem.W.Frag} {mg : Str → Option Value} {base : Heap} {T : List (Addr × Str)}
theorem scTerms : FnScope ["sizes", "value", "least", "term", "choice", "weights", "weight"] ["sizes", "value"] (defScope sTerms) := ⟨rfl, rfl, rfl, by decide +kernel, rfl, by decide +kernel, by decide +kernel⟩
theorem def_terms {PA : Addr} (B : Bl mg) (I : Def P w K mg base CX0 1 "is_integer" ["value"] (spInteger K)) (W : Def P w K mg base CX0 2 "is_within" ["value", "low", "high"] (spWithin K)) (R : Def P w K mg base CX0 1 "is_row" ["value", "many"] (spRow K))
    (F : AtC K mg base "is_terms" sTerms ["sizes", "value"] PA) (uq : Uq T) (mT : (PA, qGen "is_terms" sTerms) ∈ T) : Def P w K mg base CX0 3 "is_terms" ["sizes", "value"] (spTerms K T) := by
  refine F.ok scTerms (fun vs H Q E h => ?_) (fun f c A outer s H vs Q E TB hr h => ?_)
  · obtain ⟨x, y, ss, ts, rfl, _⟩ := h
    rfl
  · obtain ⟨x, y, ss, ts, rfl, hx, hy, ok, tb, q⟩ := h
    refine ⟨_, pss_cons (ps_if (pt_not (pt_val (pe_callB call_isi (by rfl) B.isi sIns (pa_cons (pv 1) (pa_cons (pe_ty (by rfl) B.tup sTup) pa_nil))))) (pss_one ps_never) pss_nil)
      (pss_cons (ps_set (i := 2) scTerms.nd rfl (Or.inl rfl) pe_int)
      (pss_cons (ps_for PassesOwn.never rfl (pi_tup (pv 1)) (pg_name (i := 3) scTerms.nd rfl (Or.inl rfl))
        (pss_cons (ps_if (pt_or (po_cons (pt_not (pt_val (pe_def R (hr.mono (by decide)) (by rfl) pass0 (pa_cons (pv 3) (pa_cons pe_int pa_nil)))))
            (po_cons (pt_not (pt_val (pe_def W hr (by rfl) pass0 (pa_cons (pe_ix ix_tup (pv 3) pe_int (fun _ _ => rfl)) (pa_cons (pv 2) (pa_cons (pe_op op_sub (pe_callB call_len_seq (by rfl) B.len sLen (pa_cons (pv 0) pa_nil)) pe_int) pa_nil)))))) po_nil))) (pss_one ps_never) pss_nil)
        (pss_cons (ps_asg (pv 3) (pg_tup rfl (pgs_cons (pg_name (i := 4) scTerms.nd rfl (Or.inl rfl)) (pgs_cons (pg_name (i := 5) scTerms.nd rfl (Or.inl rfl)) pgs_nil))))
        (pss_cons (ps_if (pt_or (po_cons (pt_not (pt_val (pe_def R (hr.mono (by decide)) (by rfl) pass0 (pa_cons (pv 5) (pa_cons (pe_ix ix_tup (pv 0) (pv 4) (fun _ _ => rfl)) pa_nil)))))
            (po_cons (pt_not (pt_val (pe_allX (own := [("weight", 6)]) (g := gName 6) (tt := tYes) hr (by rfl) B.all sAll TB rfl (genN_by (N := ["sizes", "value", "least", "term", "choice", "weights", "weight"]) (sc := defScope sTerms) (by decide +kernel)) scTerms.nd (pi_tup (pv 5))
              (fun _ _ _ _ _ _ _ => pg_name (i := 6) scTerms.nd rfl (Or.inl rfl)) (fun _ _ _ _ _ _ _ => pts_nil)
              (fun B s H C code fp pn hrB => pe_def I hrB (by rfl) pass0 (pa_cons (pv 6) pa_nil))))) po_nil))) (pss_one ps_never) pss_nil)
        (pss_one (ps_set (i := 2) scTerms.nd rfl (Or.inl rfl) (pe_op op_add (pv 4) pe_int)))))))
      (pss_one (ps_ret pe_bl)))), ?_⟩
    obtain ⟨a, rfl, hs⟩ := repN hx
    obtain ⟨b, xs, rfl, ht, ra⟩ := repTs hy
    have hl := ra.length
    rw [List.length_map] at hl
    refine ⟨_, rfl, _, _, _, _, _, rfl, .ty "tuple", tyx_of hy, kit_ty (kit_tuple _), _, rfl, ?_⟩
    refine ⟨_, rfl, b, rfl, ⟨_, ht⟩, for_tup (K := K) (a := b) (xs := xs) (fun i σ H' => ∃ (k : Nat) (s3 s4 s5 : Option V), Gq T H H' ∧ σ = [some (.ref a), some (.ref b), some (.int (k : Nat)), s3, s4, s5, none] ∧ TmOk ss k (ts.drop i)) ?_ ?_ ?_ ?_⟩
    · exact ⟨0, none, none, none, .refl tb, rfl, ok⟩
    · rintro i σ H' _ ⟨_, _, _, _, g, _⟩
      exact sqt_ext g.ext ht
    · rintro i x σ H' hi ⟨k, s3, s4, s5, g, rfl, tk⟩
      obtain ⟨t, et, rt⟩ := tm_at ra hi
      rw [drop_at et] at tk
      obtain ⟨k1, ⟨s, z1, z2, z3⟩, k2⟩ := tk
      have rt' := g.rep rt
      obtain ⟨ta, wv, rfl, st, rw_⟩ := repTm rt'
      have lc := (List.getElem?_eq_some_iff.mp z1).1
      have hsH := sqt_ext g.ext hs
      refine ⟨_, rfl, _, dTm t, 2, rfl, rt', _, rfl, ?_⟩
      refine ⟨_, rfl, ta, _, _, _, rfl, rfl, st, (atI_nat (j := 0) rfl), _, rfl, _, rfl, a, _, rfl, .inr hsH, _, _, rfl, rfl, _, _, _, _, rfl, .int _, _, rfl, ?_⟩
      have e1 : within (.int (t.1 : Nat)) (k : Nat) (((ss.map fun n => V.int (n : Nat)).length : Nat) - 1) = true := by
        simp only [within, Bool.and_eq_true, decide_eq_true_eq, List.length_map]
        omega
      rw [e1]
      refine ⟨_, rfl, ta, _, rfl, st, rfl, _, _, rfl, _, _, rfl, rfl, ?_⟩
      refine ⟨_, rfl, _, rfl, _, rfl, a, _, _, _, rfl, rfl, hsH, atI_nat (by rw [List.getElem?_map, z1]; rfl), wv, dW t.2, (s : Nat), rfl, rw_, _, rfl, ?_⟩
      have e2 : isRow (dW t.2) (s : Nat) = true := by
        show decide _ = true
        rw [decide_eq_true_eq, List.length_map, z2]
      rw [e2]
      obtain ⟨wa, rfl, hw⟩ := repW rw_
      refine ⟨_, rfl, wa, rfl, ⟨_, hw⟩, g.tb _ mT, fun H2 gr => ?_⟩
      have g2 := g.trans (Gq.grow uq mT g.tb gr)
      refine all_tup (xs := t.2.map V.int) (K := K) (fun i H' => H' = H2) rfl (fun i H' _ e => by rw [e]; exact sqt_ext (Gq.grow uq mT g.tb gr).ext hw) (fun i x H' Po hi e po => ?_) fun H' e => ?_
      · subst e
        obtain ⟨n, hn, rfl⟩ := int_at hi
        exact ⟨rfl, _, rfl, _, _, rfl, .int n, po true H' rfl⟩
      · subst e
        exact ⟨_, rfl, _, rfl, _, _, rfl, rfl, t.1 + 1, _, _, _, g2, rfl, k2⟩
    · rintro σ H' ⟨k, s3, s4, s5, g, rfl, _⟩
      exact q H' g
theorem call_minK {X : Cx} (hK : X.K = K) (hc : X.calm = true) : CallR X (.builtin "min") (rLeast K mnL) := hK ▸ call_minT hc
theorem call_maxK {X : Cx} (hK : X.K = K) (hc : X.calm = true) : CallR X (.builtin "max") (rLeast K mxL) := hK ▸ call_maxT hc
theorem scSum : FnScope ["sizes", "value", "terms", "bound", "_", "weights"] ["sizes", "value"] (defScope sSum) := ⟨rfl, rfl, rfl, by decide +kernel, rfl, by decide +kernel, by decide +kernel⟩
theorem hu64 {k : Nat} {A : Around} (hr : Room k A) : A.units + 64 < cLine := by
  have := hr.un
  omega
theorem def_sum {PA : Addr} (B : Bl mg) (TD : Def P w K mg base CX0 3 "is_terms" ["sizes", "value"] (spTerms K T)) (W : Def P w K mg base CX0 2 "is_from" ["value", "low"] (spFrom K)) (R : Def P w K mg base CX0 1 "is_row" ["value", "many"] (spRow K))
    (F : AtC K mg base "is_sum" sSum ["sizes", "value"] PA) (uq : Uq T) (mT : (PA, qGen "is_sum" sSum) ∈ T) : Def P w K mg base CX0 4 "is_sum" ["sizes", "value"] (spSum K T) := by
  refine F.ok scSum (fun vs H Q E h => ?_) (fun f c A outer s H vs Q E TB hr h => ?_)
  · obtain ⟨x, y, ss, s, rfl, _⟩ := h
    rfl
  · obtain ⟨x, y, ss, s, rfl, hx, hy, ok, tb, q⟩ := h
    refine ⟨_, pss_cons (ps_if (pt_not (pt_val (pe_def R (hr.mono (by decide)) (by rfl) pass0 (pa_cons (pv 1) (pa_cons pe_int pa_nil))))) (pss_one ps_never) pss_nil)
      (pss_cons (ps_asg (pv 1) (pg_tup rfl (pgs_cons (pg_name (i := 2) scSum.nd rfl (Or.inl rfl)) (pgs_cons (pg_name (i := 3) scSum.nd rfl (Or.inl rfl)) pgs_nil))))
      (pss_cons (ps_if (pt_or (po_cons (pt_not (pt_val (pe_def TD hr (by rfl) pass0 (pa_cons (pv 0) (pa_cons (pv 2) pa_nil)))))
            (po_cons (pt_not (pt_val (pe_def W (hr.mono (by decide)) (by rfl) pass0 (pa_cons (pv 3) (pa_cons pe_int pa_nil))))) po_nil))) (pss_one ps_never) pss_nil)
      (pss_cons (ps_if (pt_cmpR op_eq (pv 3) pe_int (nomark _)) (pss_one (ps_ret (pe_cmpR (op_eqD (hu64 hr)) (pv 2) (pe_tup pa_nil) (nomark _)))) pss_nil)
      (pss_one (ps_ret (pe_allX (own := [("_", 4), ("weights", 5)]) (g := gTup K 2 (gCons (gName 4) (gCons (gName 5) gNil))) (tt := tYes) hr (by rfl) B.all sAll TB rfl
        (genN_by (N := ["sizes", "value", "terms", "bound", "_", "weights"]) (sc := defScope sSum) (by decide +kernel)) scSum.nd (pi_tup (pv 2))
        (fun _ _ _ _ _ _ _ => pg_tup rfl (pgs_cons (pg_name (i := 4) scSum.nd rfl (Or.inl rfl) (.inr rfl)) (pgs_cons (pg_name (i := 5) scSum.nd rfl (Or.inl rfl) (.inr rfl)) pgs_nil))) (fun _ _ _ _ _ _ _ => pts_nil)
        (fun _ s H C code fp pn hrB => pe_and (pe_cmpR op_eq (pe_callB (call_minK (K := K) rfl rfl) (by rfl) B.min sMin (pa_cons (pv 5) pa_nil)) pe_int (nomark _))
          (pe_one (pe_cmpR op_gt (pe_callB (call_maxK (K := K) rfl rfl) (by rfl) B.max sMax (pa_cons (pv 5) pa_nil)) pe_int (nomark _)))))))))), ?_⟩
    obtain ⟨a, tv, rfl, hs, ht⟩ := repSm hy
    refine ⟨_, rfl, _, dSm s, 2, rfl, hy, _, rfl, ?_⟩
    refine ⟨_, rfl, a, _, rfl, hs, rfl, _, _, rfl, _, _, rfl, rfl, ?_⟩
    refine ⟨_, rfl, _, rfl, _, _, ss, s.1, rfl, hx, ht, ok.tm, tb, fun H1 g1 => ⟨_, rfl, ?_⟩⟩
    refine ⟨_, rfl, _, _, _, rfl, .int s.2, _, rfl, ?_⟩
    have e1 : fromI (.int s.2) 0 = true := decide_eq_true ok.pos
    rw [e1]
    refine ⟨_, rfl, rfl, _, rfl, ?_⟩
    by_cases z : s.2 = 0
    · rw [decide_eq_true (by rw [z])]
      have ez := ok.zero z
      rw [ez] at ht
      refine ⟨_, rfl, by show 0 ≤ sizeLine; decide, fun p hp => ?_⟩
      have g2 := g1.new (o := .tup []) hp
      exact ⟨dTs [], .tuple [], dp_of (g2.rep ht), .tup (SqT.of upd_same) .nil, (it_trms (k := 0) []).shaped (by decide), by decide +kernel, q _ g2⟩
    · rw [decide_eq_false (fun e => z (V.int.inj e))]
      obtain ⟨b, xs, rfl, hb, ra⟩ := repTs ht
      refine ⟨_, rfl, b, rfl, ⟨_, sqt_ext g1.ext hb⟩, g1.tb _ mT, fun H2 gr => ?_⟩
      have g2 := g1.trans (Gq.grow uq mT g1.tb gr)
      refine all_tup (xs := xs) (K := K) (fun i H' => H' = H2) rfl (fun i H' _ e => by rw [e]; exact sqt_ext g2.ext hb) (fun i x H' Po hi e po => ?_) fun H' e => ?_
      · subst e
        obtain ⟨t, et, rt⟩ := tm_at ra hi
        obtain ⟨ta, wv, rfl, st, rw_⟩ := repTm (g2.rep rt)
        obtain ⟨wa, rfl, hw⟩ := repW rw_
        obtain ⟨_, n, z1, z2, z3⟩ := ok.tm.lt (List.mem_of_getElem? et)
        obtain ⟨m0, m1⟩ := ok.all t (List.mem_of_getElem? et)
        have ne := ne_of_len z2 z3
        refine ⟨ta, _, rfl, st, rfl, _, _, rfl, _, _, rfl, rfl, rfl, ?_⟩
        refine ⟨_, rfl, wa, t.2, rfl, hw, ne, rfl, _, rfl, ?_⟩
        rw [m0, decide_eq_true rfl]
        refine ⟨_, rfl, wa, t.2, rfl, hw, ne, _, _, rfl, rfl, ?_⟩
        show Po (V.bl (decide (0 < mxL t.2))) H'
        rw [decide_eq_true m1]
        exact po true H' rfl
      · subst e
        exact q H' g2
end
end K2
set_option Elab.async false
set_option linter.all false
set_option maxRecDepth 100000
set_option maxHeartbeats 4000000
/-! Q4: the program: the form of weights and a bound. -/
namespace K2
open PySem PySem.Spec PyProof.Rows L2 BK LamX
theorem formK_snoc (ts : List Trm) (t : Trm) : formK (ts ++ [t]) = formK ts ++ (keep1 t).toList := by
  unfold formK
  rw [List.filterMap_append]
  cases h : keep1 t <;> simp [h]
theorem mnS_snoc (ts : List Trm) (t : Trm) : mnS (ts ++ [t]) = mnS ts + mnL t.2 := by simp [mnS]
theorem len_tm {ss : List Nat} : ∀ {ts : List Trm} {k : Nat}, TmOk ss k ts → k ≤ ss.length → ts.length + k ≤ ss.length
  | [], k, _, h => by simpa using h
  | t :: ts, k, ⟨a, ⟨s, b, _⟩, c⟩, h => by
    have lc := (List.getElem?_eq_some_iff.mp b).1
    have := len_tm c (by omega)
    simp only [List.length_cons]
    omega
theorem len_formK (ts : List Trm) : (formK ts).length ≤ ts.length := List.length_filterMap_le _ _
theorem rep_new {K : PySem.W.Frag} {H H' : Hp} {T : List (Addr × Str)} {v : V} {d : PyData} (g : Gq T H H') (r : Rep K H v d) : Rep K H' v d := g.rep r
def spForm (K : PySem.W.Frag) (T : List (Addr × Str)) : Sp := fun vs H Q _ => ∃ (x : V) (ss : List Nat) (ts : List Trm) (b : Int), vs = [x, .int b] ∧ Rep K H x (dTs ts) ∧ SzOk ss ∧ TmOk ss 0 ts ∧ Tabs T H ∧ ∀ v H', Gq T H H' → Rep K H' v (dSm (formOf ts b)) → Q v H'
theorem it_trms' {ts : List Trm} {t : Trm} : ∀ d ∈ ts.map dTm ++ [dTm t], IT 2 d := fun d hd => by
  rcases List.mem_append.mp hd with h | h
  · obtain ⟨u, _, rfl⟩ := List.mem_map.mp h
    exact it_trm u
  · rw [List.mem_singleton.mp h]
    exact it_trm t
theorem wkeep {K : PySem.W.Frag} {H : Hp} {xs : List V} {ds : List PyData} {x : V} {d : PyData} (h : RepAll K H xs ds) (r : Rep K H x d) : RepAll K H (xs ++ [x]) (ds ++ [d]) := h.append (.cons r .nil)
section
variable {P : Program} {w : World} {K : PySem.W.Frag} {mg : Str → Option Value} {base : Heap} {T : List (Addr × Str)}
theorem scForm : FnScope ["terms", "bound", "kept", "choice", "weights", "least", "weight"] ["terms", "bound"] (defScope sForm) := ⟨rfl, rfl, rfl, by decide +kernel, rfl, by decide +kernel, by decide +kernel⟩
theorem def_form (B : Bl mg) (F : At K mg "form" sForm ["terms", "bound"]) : Def P w K mg base CX0 1 "form" ["terms", "bound"] (spForm K T) := by
  refine F.ok scForm (fun vs H Q E h => ?_) (fun f cdv A outer s H vs Q E hr h => ?_)
  · obtain ⟨x, ss, ts, b, rfl, _⟩ := h
    rfl
  · obtain ⟨x, ss, ts, b, rfl, hx, so, ok, tb, q⟩ := h
    refine ⟨_, pss_cons (ps_set (i := 2) scForm.nd rfl (Or.inl rfl) (pe_lst pa_nil))
      (pss_cons (ps_for PassesOwn.never rfl (pi_tup (pv 0)) (pg_tup rfl (pgs_cons (pg_name (i := 3) scForm.nd rfl (Or.inl rfl)) (pgs_cons (pg_name (i := 4) scForm.nd rfl (Or.inl rfl)) pgs_nil)))
        (pss_cons (ps_set (i := 5) scForm.nd rfl (Or.inr rfl) (pe_callB (call_minT rfl) (by rfl) B.min sMin (pa_cons (pv 4) pa_nil)))
        (pss_cons (ps_set (i := 1) scForm.nd rfl (Or.inl rfl) (pe_op op_sub (pv 1) (pv 5)))
        (pss_one (ps_if (pt_cmpR op_gt (pe_callB (call_maxT rfl) (by rfl) B.max sMax (pa_cons (pv 4) pa_nil)) (pv 5) (nomark _))
          (pss_one (ps_expr (pe_bm PySem.F.plainAttrs_list PySem.F.slot_list_append PySem.F.type_list_append mt_append (pv 2)
            (pa_cons (pe_tup (pa_cons (pv 3) (pa_cons (pe_ifExp (pt_cmpR op_eq (pv 5) pe_int (nomark _)) (pv 4)
              (pe_callTy call_tuple_of (by rfl) B.tup sTup (pa_cons (pe_lc (own := [("weight", 6)]) (g := gName 6) (tt := tYes) rfl scForm.nd (pi_tup (pv 4))
                (blkOk_by (N := ["terms", "bound", "kept", "choice", "weights", "least", "weight"]) (sc := defScope sForm) (by decide +kernel)) (fun _ _ _ _ _ => pg_name (i := 6) scForm.nd rfl (Or.inl rfl)) (fun _ _ _ _ _ => pts_nil)
                (fun _ _ _ _ _ => pe_op op_sub (pv 6) (pv 5))) pa_nil))) pa_nil))) pa_nil)))) pss_nil)))))
      (pss_one (ps_ret (pe_ifExp (pt_cmpR op_gt (pv 1) pe_int (nomark _)) (pe_tup (pa_cons (pe_callTy call_tuple_of (by rfl) B.tup sTup (pa_cons (pv 2) pa_nil)) (pa_cons (pv 1) pa_nil)))
        (pe_tup (pa_cons (pe_tup pa_nil) (pa_cons pe_int pa_nil))))))), ?_⟩
    obtain ⟨a, xs, rfl, ht, ra⟩ := repTs hx
    have hl := ra.length
    rw [List.length_map] at hl
    have lts := len_tm ok (Nat.zero_le _)
    have sl := so.len
    refine ⟨Nat.zero_le _, fun l hl0 => ?_⟩
    have g0 := (Gq.refl tb).new (o := .lst []) hl0
    refine ⟨_, rfl, a, rfl, ⟨_, sqt_ext g0.ext ht⟩, for_tup (K := K) (a := a) (xs := xs) (fun i σ H' => ∃ (s3 s4 s5 : Option V) (ys : List V), Gq T H H' ∧ H' l = some (.lst ys) ∧ RepAll K H' ys ((formK (ts.take i)).map dTm) ∧
      σ = [some (.ref a), some (.int (b - mnS (ts.take i))), some (.ref l), s3, s4, s5, none]) ?_ ?_ ?_ ?_⟩
    · exact ⟨none, none, none, [], g0, upd_same, .nil, by simp [mnS]; rfl⟩
    · rintro i σ H' _ ⟨_, _, _, _, g, _⟩
      exact sqt_ext g.ext ht
    · rintro i x σ H' hi ⟨s3, s4, s5, ys, g, h1, r1, rfl⟩
      obtain ⟨t, et, rt⟩ := tm_at ra hi
      obtain ⟨ta, wv, rfl, st, rw_⟩ := repTm (g.rep rt)
      obtain ⟨wa, rfl, hw⟩ := repW rw_
      obtain ⟨_, n, z1, z2, z3⟩ := ok.lt (List.mem_of_getElem? et)
      have ne := ne_of_len z2 z3
      have n2 := (so.all n (List.mem_of_getElem? z1)).2
      have il : i < ts.length := (List.getElem?_eq_some_iff.mp et).1
      have ly : ys.length ≤ 100 := by
        have e1 := r1.length
        rw [List.length_map] at e1
        have e2 := len_formK (ts.take i)
        rw [List.length_take] at e2
        omega
      have eb : b - mnS (ts.take i) - mnL t.2 = b - mnS (ts.take (i + 1)) := by rw [take_snoc et, mnS_snoc]; omega
      refine ⟨ta, _, rfl, st, rfl, _, _, rfl, _, _, rfl, rfl, ?_⟩
      refine ⟨_, rfl, wa, t.2, rfl, hw, ne, ?_⟩
      refine ⟨_, rfl, _, rfl, _, _, rfl, rfl, ?_⟩
      refine ⟨_, rfl, wa, t.2, rfl, hw, ne, _, rfl, _, _, rfl, rfl, _, rfl, ?_⟩
      by_cases gt : mxL t.2 > mnL t.2
      · refine ifY (decide_eq_true gt) ?_
        -- behind the append
        have app : ∀ (H2 : Hp) (p : Addr) (wv : V), Gq T H H2 → H2 l = some (.lst ys) → RepAll K H2 ys ((formK (ts.take i)).map dTm) → H2 p = some (.tup [.int (t.1 : Nat), wv]) → Rep K H2 wv (dW (t.2.map (· - mnL t.2))) →
            ∃ l' xs' y, V.ref l = V.ref l' ∧ [V.ref p] = [y] ∧ H2 l' = some (.lst xs') ∧ xs'.length < sizeLine ∧ ∃ (s3 s4 s5 : Option V) (ys : List V), Gq T H (upd H2 l' (.lst (xs' ++ [y]))) ∧ (upd H2 l' (.lst (xs' ++ [y]))) l = some (.lst ys) ∧ RepAll K (upd H2 l' (.lst (xs' ++ [y]))) ys ((formK (ts.take (i + 1))).map dTm) ∧
              [some (V.ref a), some (V.int (b - mnS (ts.take i) - mnL t.2)), some (V.ref l), some (V.int (t.1 : Nat)), some (V.ref wa), some (V.int (mnL t.2)), none] = [some (.ref a), some (.int (b - mnS (ts.take (i + 1)))), some (.ref l), s3, s4, s5, none] := by
          intro H2 p wv g2 h2 r2 hp hw2
          refine ⟨l, ys, _, rfl, rfl, h2, by rw [sizeLine_eq]; omega, _, _, _, _, ?_, upd_same, ?_, by rw [eb]⟩
          · exact g2.wrote hl0 h2
          · have ef : (formK (ts.take (i + 1))).map dTm = (formK (ts.take i)).map dTm ++ [dTm (t.1, t.2.map (· - mnL t.2))] := by
              rw [take_snoc et, formK_snoc]
              unfold keep1
              rw [if_pos gt]
              simp
            rw [ef]
            have rp : Rep K H2 (.ref p) (dTm (t.1, t.2.map (· - mnL t.2))) := .tup (.inl (.inl hp)) (.cons (.int _) (.cons hw2 .nil))
            exact rep_wrote h2 (wkeep r2 rp) fun d hd => ⟨2, it_trms' d hd⟩
        refine ⟨_, rfl, .inl ⟨rfl, _, SqL.of h1⟩, ?_⟩
        refine ⟨_, rfl, _, rfl, rfl, _, rfl, ?_⟩
        by_cases z : mnL t.2 = 0
        · refine ifY (decide_eq_true (by rw [z])) ?_
          refine ⟨_, rfl, by show 2 ≤ sizeLine; decide, fun p hp => ?_⟩
          have g2 := g.new (o := .tup [.int (t.1 : Nat), .ref wa]) hp
          have kk : ∀ {v : V} {d : PyData}, Rep K H' v d → Rep K (upd H' p (.tup [.int (t.1 : Nat), .ref wa])) v d := fun r => r.ext (ext_new hp)
          refine app _ p (.ref wa) g2 (by rw [upd_ne (ne_of_none h1 hp)]; exact h1) (r1.ext (ext_new hp)) upd_same ?_
          have : t.2.map (· - mnL t.2) = t.2 := by rw [z]; simp
          rw [this]
          exact kk rw_
        · refine ifN (decide_eq_false (fun e => z (V.int.inj e))) ?_
          refine ⟨_, rfl, wa, rfl, ⟨_, hw⟩, fun D hD => ?_⟩
          refine lc_tup (K := K) (a := wa) (xs := t.2.map V.int) (fun k H2 => (∀ b o, H' b = some o → H2 b = some o) ∧ H2 D = some (.lst (((t.2.take k).map (· - mnL t.2)).map V.int))) ?_ ?_ ?_ ?_
          · exact ⟨fun c o e => by rw [upd_ne (ne_of_none e hD)]; exact e, upd_same⟩
          · rintro k H2 hk ⟨s2, h2⟩
            exact sqt_same s2 hw
          · rintro k x H2 hk ⟨s2, h2⟩
            obtain ⟨v, hv, rfl⟩ := int_at hk
            have kl : k < t.2.length := (List.getElem?_eq_some_iff.mp hv).1
            refine ⟨rfl, yes ?_⟩
            rw [if_pos rfl]
            refine ⟨_, rfl, _, rfl, _, _, rfl, rfl, _, h2, by rw [sizeLine_eq]; simp; omega, fun c o e => by rw [upd_ne (ne_of_none e hD)]; exact s2 c o e, ?_⟩
            rw [upd_same, take_snoc hv, List.map_append, List.map_append]
            rfl
          · rintro H2 ⟨s2, h2⟩
            rw [List.length_map, List.take_length] at h2
            have gD : Gq T H' H2 := ⟨fun b o e _ => s2 b o e, g.tb.ext s2⟩
            refine ⟨D, _, rfl, .inl ⟨SqL.of h2, fun U hU => ⟨by show 2 ≤ sizeLine; decide, fun p hp => ?_⟩⟩⟩
            have g2 := ((g.trans gD).new (o := .tup ((t.2.map (· - mnL t.2)).map V.int)) hU).new (o := .tup [.int (t.1 : Nat), .ref U]) hp
            have gg := (gD.new (o := .tup ((t.2.map (· - mnL t.2)).map V.int)) hU).new (o := .tup [.int (t.1 : Nat), .ref U]) hp
            refine app _ p (.ref U) g2 (gg.ext l _ h1 (fun ps z => by cases z)) (r1.ext gg.ext) upd_same ?_
            refine .tup (.inl (.inl ?_)) (RepAll.ints _)
            rw [upd_ne (fun e => by rw [e] at hU; rw [e, upd_same] at hp; cases hp), upd_same]
      · refine ifN (decide_eq_false gt) ?_
        refine ⟨_, _, _, ys, g, h1, ?_, by rw [← eb]; rfl⟩
        have ef : formK (ts.take (i + 1)) = formK (ts.take i) := by
          rw [take_snoc et, formK_snoc]
          unfold keep1
          rw [if_neg gt]
          simp
        rw [ef]
        exact r1
    · rintro σ H' ⟨s3, s4, s5, ys, g, h1, r1, rfl⟩
      rw [hl, List.take_length] at r1 ⊢
      refine ⟨_, rfl, _, _, rfl, rfl, _, rfl, ?_⟩
      by_cases gt : b - mnS ts > 0
      · refine ifY (decide_eq_true gt) ?_
        refine ⟨_, rfl, l, _, rfl, .inl ⟨SqL.of h1, fun U hU => ⟨_, rfl, by show 2 ≤ sizeLine; decide, fun p hp => ?_⟩⟩⟩
        have gg := ((Gq.refl g.tb).new (o := .tup ys) hU).new (o := .tup [.ref U, .int (b - mnS ts)]) hp
        refine q _ _ (g.trans gg) ?_
        unfold formOf
        rw [if_pos gt]
        refine .tup (.inl (.inl upd_same)) (.cons (.tup (.inl (.inl ?_)) (r1.ext gg.ext)) (.cons (.int _) .nil))
        rw [upd_ne (fun e => by rw [e] at hU; rw [e, upd_same] at hp; cases hp), upd_same]
      · refine ifN (decide_eq_false gt) ?_
        refine ⟨by show 0 ≤ sizeLine; decide, fun U hU => ⟨by show 2 ≤ sizeLine; decide, fun p hp => ?_⟩⟩
        have gg := ((Gq.refl g.tb).new (o := .tup []) hU).new (o := .tup [.ref U, .int 0]) hp
        refine q _ _ (g.trans gg) ?_
        unfold formOf
        rw [if_neg gt]
        refine .tup (.inl (.inl upd_same)) (.cons (.tup (.inl (.inl ?_)) .nil) (.cons (.int _) .nil))
        rw [upd_ne (fun e => by rw [e] at hU; rw [e, upd_same] at hp; cases hp), upd_same]
end
end K2
set_option Elab.async false
set_option linter.all false
set_option maxRecDepth 100000
set_option maxHeartbeats 4000000
/-! Q5: the program: what rows weigh; the functions that users call. -/
namespace K2
open PySem PySem.Spec PyProof.Rows L2 BK LamX
def val1 (r : List Nat) (ts : List Trm) (i : Nat) : Int := match ts[i]? with
  | some t => t.2.getD (r.getD t.1 0) 0
  | none => 0
theorem pre_wt (r : List Nat) (ts : List Trm) : ∀ n, n ≤ ts.length → preSum (val1 r ts) n = wt r (ts.take n)
  | 0, _ => rfl
  | n + 1, h => by
    have e : ts[n]? = some ts[n] := List.getElem?_eq_getElem (by omega)
    show preSum (val1 r ts) n + val1 r ts n = _
    rw [pre_wt r ts n (by omega), take_snoc e]
    have ev : val1 r ts n = ts[n].2.getD (r.getD ts[n].1 0) 0 := by
      unfold val1
      rw [e]
    rw [ev]
    simp only [wt, List.map_append, List.sum_append, List.map_cons, List.map_nil, List.sum_cons, List.sum_nil, Int.add_zero]
def spWeightIn (K : PySem.W.Frag) (T : List (Addr × Str)) : Sp := fun vs H Q _ => ∃ (x y : V) (ss : List Nat) (s : List Trm × Int) (r : List Nat), vs = [x, y] ∧ Rep K H x (dSm s) ∧ Rep K H y (dN r) ∧ TmOk ss 0 s.1 ∧ RowOk ss r ∧ Tabs T H ∧ ∀ H', Gq T H H' → Q (.int (wt r s.1)) H'
def spKeptBy (K : PySem.W.Frag) (T : List (Addr × Str)) : Sp := fun vs H Q _ => ∃ (x y : V) (ss : List Nat) (s : List Trm × Int) (r : List Nat), vs = [x, y] ∧ Rep K H x (dSm s) ∧ Rep K H y (dN r) ∧ TmOk ss 0 s.1 ∧ RowOk ss r ∧ Tabs T H ∧ ∀ H', Gq T H H' → Q (.bl (decide (wt r s.1 ≥ s.2))) H'
def spNeedSum (K : PySem.W.Frag) (T : List (Addr × Str)) : Sp := fun vs H Q _ => ∃ (x y : V) (ss : List Nat) (s : List Trm × Int), vs = [x, y] ∧ Rep K H x (dN ss) ∧ Rep K H y (dSm s) ∧ SzOk ss ∧ SumOk ss s ∧ Tabs T H ∧ ∀ H', Gq T H H' → Q y H'
def spFormOf (K : PySem.W.Frag) (T : List (Addr × Str)) : Sp := fun vs H Q _ => ∃ (x y : V) (ss : List Nat) (ts : List Trm) (b : Int), vs = [x, y, .int b] ∧ Rep K H x (dN ss) ∧ Rep K H y (dTs ts) ∧ SzOk ss ∧ TmOk ss 0 ts ∧ Tabs T H ∧ ∀ v H', Gq T H H' → Rep K H' v (dSm (formOf ts b)) → Q v H'
def spWeightOf (K : PySem.W.Frag) (T : List (Addr × Str)) : Sp := fun vs H Q _ => ∃ (x y z : V) (ss : List Nat) (s : List Trm × Int) (r : List Nat), vs = [x, y, z] ∧ Rep K H x (dN ss) ∧ Rep K H y (dSm s) ∧ Rep K H z (dN r) ∧ SzOk ss ∧ SumOk ss s ∧ RowOk ss r ∧ Tabs T H ∧ ∀ H', Gq T H H' → Q (.int (wt r s.1)) H'
def spKept (K : PySem.W.Frag) (T : List (Addr × Str)) : Sp := fun vs H Q _ => ∃ (x y z : V) (ss : List Nat) (s : List Trm × Int) (r : List Nat), vs = [x, y, z] ∧ Rep K H x (dN ss) ∧ Rep K H y (dSm s) ∧ Rep K H z (dN r) ∧ SzOk ss ∧ SumOk ss s ∧ RowOk ss r ∧ Tabs T H ∧ ∀ H', Gq T H H' → Q (.bl (decide (wt r s.1 ≥ s.2))) H'
section
variable {P : Program} {w : World} {K : PySem.W.Frag} {mg : Str → Option Value} {base : Heap} {T : List (Addr × Str)}
theorem scWeightIn : FnScope ["one", "row", "choice", "weights"] ["one", "row"] (defScope sWeightIn) := ⟨rfl, rfl, rfl, by decide +kernel, rfl, by decide +kernel, by decide +kernel⟩
theorem ix_tupK {X : Cx} (hK : X.K = K) : IxR X (rIxT K) := hK ▸ ix_tup
theorem def_weightIn {PA : Addr} (B : Bl mg) (F : AtC K mg base "weight_in" sWeightIn ["one", "row"] PA) (uq : Uq T) (mT : (PA, qGen "weight_in" sWeightIn) ∈ T) : Def P w K mg base CX0 2 "weight_in" ["one", "row"] (spWeightIn K T) := by
  refine F.ok scWeightIn (fun vs H Q E h => ?_) (fun f c A outer s H vs Q E TB hr h => ?_)
  · obtain ⟨x, y, ss, s, r, rfl, _⟩ := h
    rfl
  · obtain ⟨x, y, ss, s, r, rfl, hx, hy, ok, ro, tb, q⟩ := h
    refine ⟨_, pss_one (ps_ret (pe_sumX (own := [("choice", 2), ("weights", 3)]) (g := gTup K 2 (gCons (gName 2) (gCons (gName 3) gNil))) (tt := tYes) hr (by rfl) B.sum sSumB TB rfl
        (genN_by (N := ["one", "row", "choice", "weights"]) (sc := defScope sWeightIn) (by decide +kernel)) scWeightIn.nd (pi_tup (pe_ix ix_tup (pv 0) pe_int (fun _ _ => rfl)))
        (fun _ _ _ _ _ _ _ => pg_tup rfl (pgs_cons (pg_name (i := 2) scWeightIn.nd rfl (Or.inl rfl) (.inr rfl)) (pgs_cons (pg_name (i := 3) scWeightIn.nd rfl (Or.inl rfl) (.inr rfl)) pgs_nil))) (fun _ _ _ _ _ _ _ => pts_nil)
        (fun _ s H C code fp pn hrB => pe_ix (ix_tupK (K := K) rfl) (pv 3) (pe_ix (ix_tupK (K := K) rfl) (pv 1) (pv 2) (fun _ _ => rfl)) (fun _ _ => rfl)))), ?_⟩
    obtain ⟨a, tv, rfl, hs, ht⟩ := repSm hx
    obtain ⟨b, xs, rfl, hb, ra⟩ := repTs ht
    obtain ⟨ya, rfl, hrw⟩ := repN hy
    have hl := ra.length
    rw [List.length_map] at hl
    refine ⟨_, rfl, a, _, _, _, rfl, rfl, hs, (atI_nat (j := 0) rfl), b, rfl, ⟨_, hb⟩, tb _ mT, fun H2 gr => ?_⟩
    have g2 := Gq.grow uq mT tb gr
    refine sum_tup (xs := xs) (K := K) (Fin := fun i H => Q (.int i) H) (val1 r s.1) (fun i H' => H' = H2) rfl (fun i H' _ e => by rw [e]; exact sqt_ext g2.ext hb) (fun i x H' Po hi e po => ?_) fun H' e => ?_
    · subst e
      obtain ⟨t, et, rt⟩ := tm_at ra hi
      obtain ⟨ta, wv, rfl, st, rw_⟩ := repTm (g2.rep rt)
      obtain ⟨wa, rfl, hw⟩ := repW rw_
      obtain ⟨_, n, z1, z2, z3⟩ := ok.lt (List.mem_of_getElem? et)
      obtain ⟨v, v1, v2, v3⟩ := row_at ro z1
      have lv : v < t.2.length := by omega
      refine ⟨ta, _, rfl, st, rfl, _, _, rfl, _, _, rfl, rfl, rfl, ?_⟩
      refine ⟨_, rfl, _, rfl, _, rfl, ya, _, _, _, rfl, rfl, sqt_ext g2.ext hrw, atI_nat (by rw [List.getElem?_map, v1]; rfl), wa, _, _, .int (t.2.getD v 0), rfl, rfl, hw, atI_nat ?_, ?_⟩
      · rw [List.getElem?_map, List.getElem?_eq_getElem lv, List.getD_eq_getElem?_getD, List.getElem?_eq_getElem lv]
        rfl
      · have ev : val1 r s.1 i = t.2.getD v 0 := by
          unfold val1
          rw [et]
          show t.2.getD (r.getD t.1 0) 0 = _
          rw [v2]
        rw [← ev]
        exact po H' rfl
    · subst e
      rw [hl, pre_wt r s.1 _ (Nat.le_refl _), List.take_length]
      exact q H' g2
theorem scKeptBy : FnScope ["one", "row"] ["one", "row"] (defScope sKeptBy) := ⟨rfl, rfl, rfl, by decide +kernel, rfl, by decide +kernel, by decide +kernel⟩
theorem def_keptBy (W : Def P w K mg base CX0 2 "weight_in" ["one", "row"] (spWeightIn K T)) (F : At K mg "is_kept_by" sKeptBy ["one", "row"]) : Def P w K mg base CX0 3 "is_kept_by" ["one", "row"] (spKeptBy K T) := by
  refine F.ok scKeptBy (fun vs H Q E h => ?_) (fun f cdv A outer s H vs Q E hr h => ?_)
  · obtain ⟨x, y, ss, s, r, rfl, _⟩ := h
    rfl
  · obtain ⟨x, y, ss, s, r, rfl, hx, hy, ok, ro, tb, q⟩ := h
    refine ⟨_, pss_one (ps_ret (pe_cmpR op_ge (pe_def W hr (by rfl) pass0 (pa_cons (pv 0) (pa_cons (pv 1) pa_nil))) (pe_ix ix_tup (pv 0) pe_int (fun _ _ => rfl)) (nomark _))), ?_⟩
    refine ⟨_, rfl, _, rfl, x, y, ss, s, r, rfl, hx, hy, ok, ro, tb, fun H1 g1 => ?_⟩
    obtain ⟨a, tv, rfl, hs, ht⟩ := repSm hx
    exact ⟨_, rfl, a, _, _, _, rfl, rfl, sqt_ext g1.ext hs, (atI_nat (j := 1) rfl), _, _, rfl, rfl, q H1 g1⟩
theorem scNeedSum : FnScope ["sizes", "value"] ["sizes", "value"] (defScope sNeedSum) := ⟨rfl, rfl, rfl, by decide +kernel, rfl, by decide +kernel, by decide +kernel⟩
theorem def_needSum (N : Def P w K mg base CX0 4 "need_sizes" ["sizes"] (spNeedSizes K T)) (S : Def P w K mg base CX0 4 "is_sum" ["sizes", "value"] (spSum K T)) (F : At K mg "need_sum" sNeedSum ["sizes", "value"]) : Def P w K mg base CX0 5 "need_sum" ["sizes", "value"] (spNeedSum K T) := by
  refine F.ok scNeedSum (fun vs H Q E h => ?_) (fun f cdv A outer s H vs Q E hr h => ?_)
  · obtain ⟨x, y, ss, s, rfl, _⟩ := h
    rfl
  · obtain ⟨x, y, ss, s, rfl, hx, hy, so, ok, tb, q⟩ := h
    refine ⟨_, pss_cons (ps_expr (pe_def N hr (by rfl) pass0 (pa_cons (pv 0) pa_nil)))
      (pss_cons (ps_if (pt_not (pt_val (pe_def S hr (by rfl) pass0 (pa_cons (pv 0) (pa_cons (pv 1) pa_nil))))) (pss_one ps_never) pss_nil)
      (pss_one (ps_ret (pv 1)))), ?_⟩
    refine ⟨_, rfl, x, ss, rfl, hx, so, tb, fun H1 g1 => ?_⟩
    refine ⟨_, rfl, _, rfl, x, y, ss, s, rfl, g1.rep hx, g1.rep hy, ok, g1.tb, fun H2 g2 => ⟨_, rfl, ?_⟩⟩
    exact ⟨_, rfl, q H2 (g1.trans g2)⟩
theorem scFormOf : FnScope ["sizes", "terms", "bound"] ["sizes", "terms", "bound"] (defScope sFormOf) := ⟨rfl, rfl, rfl, by decide +kernel, rfl, by decide +kernel, by decide +kernel⟩
theorem def_formOf (N : Def P w K mg base CX0 4 "need_sizes" ["sizes"] (spNeedSizes K T)) (S : Def P w K mg base CX0 3 "is_terms" ["sizes", "value"] (spTerms K T)) (I : Def P w K mg base CX0 1 "is_integer" ["value"] (spInteger K)) (G : Def P w K mg base CX0 1 "form" ["terms", "bound"] (spForm K T))
    (F : At K mg "form_of" sFormOf ["sizes", "terms", "bound"]) : Def P w K mg base CX0 5 "form_of" ["sizes", "terms", "bound"] (spFormOf K T) := by
  refine F.ok scFormOf (fun vs H Q E h => ?_) (fun f cdv A outer s H vs Q E hr h => ?_)
  · obtain ⟨x, y, ss, ts, b, rfl, _⟩ := h
    rfl
  · obtain ⟨x, y, ss, ts, b, rfl, hx, hy, so, ok, tb, q⟩ := h
    refine ⟨_, pss_cons (ps_expr (pe_def N hr (by rfl) pass0 (pa_cons (pv 0) pa_nil)))
      (pss_cons (ps_if (pt_not (pt_val (pe_def S (hr.mono (by decide)) (by rfl) pass0 (pa_cons (pv 0) (pa_cons (pv 1) pa_nil))))) (pss_one ps_never) pss_nil)
      (pss_cons (ps_if (pt_not (pt_val (pe_def I (hr.mono (by decide)) (by rfl) pass0 (pa_cons (pv 2) pa_nil)))) (pss_one ps_never) pss_nil)
      (pss_one (ps_ret (pe_def G (hr.mono (by decide)) (by rfl) pass0 (pa_cons (pv 1) (pa_cons (pv 2) pa_nil))))))), ?_⟩
    refine ⟨_, rfl, x, ss, rfl, hx, so, tb, fun H1 g1 => ?_⟩
    refine ⟨_, rfl, _, rfl, x, y, ss, ts, rfl, g1.rep hx, g1.rep hy, ok, g1.tb, fun H2 g2 => ⟨_, rfl, ?_⟩⟩
    refine ⟨_, rfl, _, _, rfl, .int b, _, rfl, ?_⟩
    refine ⟨_, rfl, _, rfl, y, ss, ts, b, rfl, (g1.trans g2).rep hy, so, ok, g2.tb, fun v H3 g3 r => q v H3 ((g1.trans g2).trans g3) r⟩
theorem scWeightOf : FnScope ["sizes", "one", "row"] ["sizes", "one", "row"] (defScope sWeightOf) := ⟨rfl, rfl, rfl, by decide +kernel, rfl, by decide +kernel, by decide +kernel⟩
theorem def_weightOf (N : Def P w K mg base CX0 5 "need_sum" ["sizes", "value"] (spNeedSum K T)) (R : Def P w K mg base CX0 5 "need_row_of" ["sizes", "row"] (spNeedRow K T)) (W : Def P w K mg base CX0 2 "weight_in" ["one", "row"] (spWeightIn K T))
    (F : At K mg "weight_of" sWeightOf ["sizes", "one", "row"]) : Def P w K mg base CX0 6 "weight_of" ["sizes", "one", "row"] (spWeightOf K T) := by
  refine F.ok scWeightOf (fun vs H Q E h => ?_) (fun f cdv A outer s H vs Q E hr h => ?_)
  · obtain ⟨x, y, z, ss, s, r, rfl, _⟩ := h
    rfl
  · obtain ⟨x, y, z, ss, s, r, rfl, hx, hy, hz, so, ok, ro, tb, q⟩ := h
    refine ⟨_, pss_cons (ps_expr (pe_def N hr (by rfl) pass0 (pa_cons (pv 0) (pa_cons (pv 1) pa_nil))))
      (pss_one (ps_ret (pe_def W (hr.mono (by decide)) (by rfl) pass0 (pa_cons (pv 1) (pa_cons (pe_def R hr (by rfl) pass0 (pa_cons (pv 0) (pa_cons (pv 2) pa_nil))) pa_nil))))), ?_⟩
    refine ⟨_, rfl, _, rfl, x, y, ss, s, rfl, hx, hy, so, ok, tb, fun H1 g1 => ?_⟩
    refine ⟨_, rfl, _, rfl, _, rfl, x, z, ss, r, rfl, g1.rep hx, g1.rep hz, ro, g1.tb, fun H2 g2 => ?_⟩
    have g := g1.trans g2
    exact ⟨y, z, ss, s, r, rfl, g.rep hy, g.rep hz, ok.tm, ro, g2.tb, fun H3 g3 => q H3 (g.trans g3)⟩
theorem scKept : FnScope ["sizes", "one", "row"] ["sizes", "one", "row"] (defScope sKept) := ⟨rfl, rfl, rfl, by decide +kernel, rfl, by decide +kernel, by decide +kernel⟩
theorem def_kept (N : Def P w K mg base CX0 5 "need_sum" ["sizes", "value"] (spNeedSum K T)) (R : Def P w K mg base CX0 5 "need_row_of" ["sizes", "row"] (spNeedRow K T)) (W : Def P w K mg base CX0 3 "is_kept_by" ["one", "row"] (spKeptBy K T))
    (F : At K mg "kept_by" sKept ["sizes", "one", "row"]) : Def P w K mg base CX0 6 "kept_by" ["sizes", "one", "row"] (spKept K T) := by
  refine F.ok scKept (fun vs H Q E h => ?_) (fun f cdv A outer s H vs Q E hr h => ?_)
  · obtain ⟨x, y, z, ss, s, r, rfl, _⟩ := h
    rfl
  · obtain ⟨x, y, z, ss, s, r, rfl, hx, hy, hz, so, ok, ro, tb, q⟩ := h
    refine ⟨_, pss_cons (ps_expr (pe_def N hr (by rfl) pass0 (pa_cons (pv 0) (pa_cons (pv 1) pa_nil))))
      (pss_one (ps_ret (pe_def W (hr.mono (by decide)) (by rfl) pass0 (pa_cons (pv 1) (pa_cons (pe_def R hr (by rfl) pass0 (pa_cons (pv 0) (pa_cons (pv 2) pa_nil))) pa_nil))))), ?_⟩
    refine ⟨_, rfl, _, rfl, x, y, ss, s, rfl, hx, hy, so, ok, tb, fun H1 g1 => ?_⟩
    refine ⟨_, rfl, _, rfl, _, rfl, x, z, ss, r, rfl, g1.rep hx, g1.rep hz, ro, g1.tb, fun H2 g2 => ?_⟩
    have g := g1.trans g2
    exact ⟨y, z, ss, s, r, rfl, g.rep hy, g.rep hz, ok.tm, ro, g2.tb, fun H3 g3 => q H3 (g.trans g3)⟩
end
end K2
set_option Elab.async false
set_option linter.all false
set_option maxRecDepth 100000
set_option maxHeartbeats 4000000
/-! R1: the law's numbers: mixed, drawn. -/
namespace K2

open PySem PySem.Spec PyProof.Rows L2 BK LamX
/-- mixed: a number from 0 to below 2147483629 -/
def spMixed : Sp := fun vs H Q _ => ∃ (c k : Int), vs = [.int c, .int k] ∧ 0 ≤ k ∧ k ≤ 1000000 ∧ ∀ r : Int, 0 ≤ r → r < 2147483648 → Q (.int r) H
theorem pos31 : (0 : Int) < 2147483647 := by decide
theorem pos29 : (0 : Int) < 2147483629 := by decide
theorem mod31 (i : Int) : -(2 ^ 64) < i % 2147483647 ∧ i % 2147483647 < 2 ^ 64 := by
  have h0 := Int.emod_nonneg i (show (2147483647 : Int) ≠ 0 by decide)
  have h1 := Int.emod_lt_of_pos i pos31
  constructor <;> omega
section
variable {P : Program} {w : World} {K : PySem.W.Frag} {mg : Str → Option Value} {base : Heap}
theorem scMixed : FnScope ["cell", "k"] ["cell", "k"] (defScope sMixed) := ⟨rfl, rfl, rfl, by decide +kernel, rfl, by decide +kernel, by decide +kernel⟩
theorem def_mixed (B : Bl mg) (F : At K mg "_law_mixed" sMixed ["cell", "k"]) : Def P w K mg base CX0 1 "_law_mixed" ["cell", "k"] spMixed := by
  refine F.ok scMixed (fun vs H Q E h => ?_) (fun f cdv A outer s H vs Q E hr h => ?_)
  · obtain ⟨c, k, rfl, _⟩ := h
    rfl
  · obtain ⟨c, k, rfl, k0, k1, q⟩ := h
    refine ⟨_, pss_cons (ps_set (i := 0) scMixed.nd rfl (Or.inl rfl) (pe_op op_mod (pe_callTy call_int1 (by rfl) B.int sInt (pa_cons (pv 0) pa_nil)) pe_int))
      (pss_one (ps_ret (pe_op op_mod (pe_op op_mul (pe_op op_mod (pe_op op_add (pe_op op_add (pe_op op_mul (pv 0) (pe_op op_add pe_int (pe_op op_mul (pe_op op_mul pe_int (pv 1)) (pv 1)))) (pe_op op_mul pe_int (pv 1))) pe_int) pe_int) pe_int) pe_int))), ?_⟩
    have m0 := Int.emod_nonneg c (show (2147483647 : Int) ≠ 0 by decide)
    have m1 := Int.emod_lt_of_pos c (show (0 : Int) < 2147483647 by decide)
    refine ⟨_, rfl, .inl ⟨c, rfl, _, _, rfl, rfl, pos31, ?_⟩⟩
    refine ⟨_, rfl, _, rfl, _, _, rfl, rfl, .inl ⟨by decide, by decide⟩, _, rfl, _, _, rfl, rfl, .inr ⟨by omega, by omega⟩, _, _, rfl, rfl, _, _, rfl, rfl, .inl ⟨by omega, by omega⟩, _, rfl, _, _, rfl, rfl, .inl ⟨by decide, by decide⟩, _, _, rfl, rfl, _, _, rfl, rfl, _, _, rfl, rfl, pos31, ?_⟩
    refine ⟨_, _, rfl, rfl, .inl (mod31 _), _, _, rfl, rfl, pos29, q _ (Int.emod_nonneg _ (by decide)) ?_⟩
    exact Int.lt_trans (Int.emod_lt_of_pos _ pos29) (by decide)
end

/-- the state's dict -/
def dS (ca la : Addr) (n : Nat) : List (Key × V) := [(.inr "cells", .ref ca), (.inr "lefts", .ref la), (.inr "at", .int n)]
theorem dS_cells (ca la : Addr) (n : Nat) : valV (dS ca la n) (.inr "cells") = some (.ref ca) := rfl
theorem dS_lefts (ca la : Addr) (n : Nat) : valV (dS ca la n) (.inr "lefts") = some (.ref la) := rfl
theorem dS_at (ca la : Addr) (n : Nat) : valV (dS ca la n) (.inr "at") = some (.int n) := rfl
theorem dS_put (ca la : Addr) (n : Nat) (v : Int) : putK (dS ca la n) (.inr "at") (.int v) = [(.inr "cells", .ref ca), (.inr "lefts", .ref la), (.inr "at", .int v)] := rfl
theorem dS_next (ca la : Addr) (n : Nat) : putK (dS ca la n) (.inr "at") (.int ((n : Int) + 1)) = dS ca la (n + 1) := rfl
/-- the state: its dict at st, its lefts at la; n draws were made -/
structure StH (st la ca : Addr) (n : Nat) (H : Hp) : Prop where
  ex : ∃ (cells lefts : List Int), H st = some (.dK (dS ca la n)) ∧ H ca = some (.lst (cells.map V.int)) ∧ H la = some (.lst (lefts.map V.int)) ∧
    lefts.length = cells.length ∧ 0 < cells.length ∧ cells.length ≤ 64 ∧ ca ≠ la
/-- nothing but the state has changed -/
def Sd (st la : Addr) (H H' : Hp) : Prop := ∀ b, b ≠ st → b ≠ la → H' b = H b
def spDraw : Sp := fun vs H Q _ => ∃ (st la ca : Addr) (n : Nat) (limit : Int), vs = [.ref st, .int limit] ∧ StH st la ca n H ∧ n ≤ 100000 ∧ 1 ≤ limit ∧ limit ≤ 1000000 ∧
  ∀ (r : Int) (H' : Hp), 0 ≤ r → r < limit → Sd st la H H' → StH st la ca (n + 1) H' → Q (.int r) H'
theorem hu_of {k : Nat} {A : Around} (hr : Room k A) : A.units + 1 < cLine := by
  have := hr.un
  omega
section
variable {P : Program} {w : World} {K : PySem.W.Frag} {mg : Str → Option Value} {base : Heap}
theorem scDraw : FnScope ["state", "limit", "at", "spot", "left", "mixed"] ["state", "limit"] (defScope sDraw) := ⟨rfl, rfl, rfl, by decide +kernel, rfl, by decide +kernel, by decide +kernel⟩
theorem def_draw (B : Bl mg) (Mx : Def P w K mg base CX0 1 "_law_mixed" ["cell", "k"] spMixed) (F : At K mg "_law_draw" sDraw ["state", "limit"]) : Def P w K mg base CX0 2 "_law_draw" ["state", "limit"] spDraw := by
  refine F.ok scDraw (fun vs H Q E h => ?_) (fun f cdv A outer s H vs Q E hr h => ?_)
  · obtain ⟨st, la, ca, n, limit, rfl, _⟩ := h
    rfl
  · obtain ⟨st, la, ca, n, limit, rfl, ⟨cells, lefts, h1, h2, h3, hl, hp, hz, hc⟩, hn, l1, l2, q⟩ := h
    refine ⟨_, pss_cons (ps_set (i := 2) scDraw.nd rfl (Or.inl rfl) (pe_dget (hu_of hr) (pv 0) pe_str (by intro _ _; rfl)))
      (pss_cons (ps_dput (hu_of hr) (pv 0) pe_str (pe_op op_add (pv 2) pe_int) (by rfl))
      (pss_cons (ps_set (i := 3) scDraw.nd rfl (Or.inl rfl) (pe_op op_mod (pe_callTy call_int1 (by rfl) B.int sInt (pa_cons (pv 2) pa_nil)) (pe_callB call_len_seq (by rfl) B.len sLen (pa_cons (pe_dget (hu_of hr) (pv 0) pe_str (by intro _ _; rfl)) pa_nil))))
      (pss_cons (ps_set (i := 4) scDraw.nd rfl (Or.inl rfl) (pe_ix ix_list (pe_dget (hu_of hr) (pv 0) pe_str (by intro _ _; rfl)) (pv 3) (by intro _ _; rfl)))
      (pss_cons (ps_if (pt_cmpR op_gt (pv 4) pe_int rfl)
        (pss_cons (ps_asg (pe_op op_fdivW (pv 4) (pv 1)) (pg_sub (pe_dget (hu_of hr) (pv 0) pe_str (by intro _ _; rfl)) (pv 3) set_list))
          (pss_one (ps_ret (pe_op op_mod (pe_callTy call_int1 (by rfl) B.int sInt (pa_cons (pv 4) pa_nil)) (pv 1))))) pss_nil)
      (pss_cons (ps_set (i := 5) scDraw.nd rfl (Or.inl rfl) (pe_def Mx hr (by rfl) pass0 (pa_cons (pe_def Mx hr (by rfl) pass0 (pa_cons (pe_ix ix_list (pe_dget (hu_of hr) (pv 0) pe_str (by intro _ _; rfl)) (pv 3) (by intro _ _; rfl)) (pa_cons (pv 2) pa_nil))) (pa_cons (pe_op op_add pe_int (pv 2)) pa_nil))))
      (pss_one (ps_ret (pe_op op_mod (pe_op op_fdivW (pe_callTy call_int1 (by rfl) B.int sInt (pa_cons (pe_op op_add (pe_op op_mul (pv 5) pe_int) (pe_def Mx hr (by rfl) pass0 (pa_cons (pv 5) (pa_cons (pe_op op_add pe_int (pv 2)) pa_nil)))) pa_nil)) pe_int) (pv 1))))))))), ?_⟩
    have nst : ca ≠ st := fun z => by rw [z, h1] at h2; cases h2
    have nlt : la ≠ st := fun z => by rw [z, h1] at h3; cases h3
    have g0 : ∀ {k : Key} {v : V}, valV (dS ca la n) k = some v → DGet H st (kV k) (some v) := fun {k v} e => by
      have := DGet.k (k := k) h1
      rw [e] at this
      exact this
    let H1 : Hp := upd H st (.dK (dS ca la (n + 1)))
    have e1 : H1 st = some (.dK (dS ca la (n + 1))) := upd_same
    have e2 : H1 ca = some (.lst (cells.map V.int)) := by rw [show H1 ca = H ca from upd_ne nst]; exact h2
    have e3 : H1 la = some (.lst (lefts.map V.int)) := by rw [show H1 la = H la from upd_ne nlt]; exact h3
    have p1 : DPut H st (.str "at") (.int ((n : Int) + 1)) H1 := DPut.k (k := .inr "at") (v := .int ((n : Int) + 1)) h1 (by show 3 < sizeLine; decide)
    have g1 : ∀ {k : Key} {v : V}, valV (dS ca la (n + 1)) k = some v → DGet H1 st (kV k) (some v) := fun {k v} e => by
      have := DGet.k (k := k) e1
      rw [e] at this
      exact this
    have sd1 : Sd st la H H1 := fun b b1 b2 => upd_ne b1
    have z1 : (0 : Int) < ((cells.map V.int).length : Nat) := by rw [List.length_map]; omega
    obtain ⟨sp, hs⟩ : ∃ sp : Nat, (n : Int) % ((cells.map V.int).length : Nat) = (sp : Int) := ⟨((n : Int) % ((cells.map V.int).length : Nat)).toNat, by have := Int.emod_nonneg (n : Int) (show ((cells.map V.int).length : Int) ≠ 0 by omega); omega⟩
    have sl : sp < cells.length := by
      have := Int.emod_lt_of_pos (n : Int) z1
      rw [hs, List.length_map] at this
      omega
    have ac : atI (cells.map V.int) (sp : Int) = some (.int cells[sp]) := atI_nat (by simp [sl])
    have al : atI (lefts.map V.int) (sp : Int) = some (.int (lefts[sp]'(by omega))) := atI_nat (by simp [hl, sl])
    generalize hle : lefts[sp]'(by omega) = le at al
    generalize hce : cells[sp] = ce at ac
    have stH1 : StH st la ca (n + 1) H1 := ⟨cells, lefts, e1, e2, e3, hl, hp, hz, hc⟩
    have d0 : 0 < limit := by omega
    have dv : CDivW le limit := wide_div (b := 20) d0 (by omega) (by decide) (by decide)
    refine ⟨_, rfl, st, .int n, rfl, g0 (dS_at ca la n), ?_⟩
    refine ⟨_, rfl, _, _, rfl, rfl, _, rfl, _, _, rfl, p1, ?_⟩
    refine ⟨_, rfl, .inl ⟨_, rfl, _, rfl, st, _, rfl, g1 (dS_cells ca la (n + 1)), ca, _, rfl, .inl (.inl (.inl e2)), _, _, rfl, rfl, z1, ?_⟩⟩
    show gName 3 (V.int ((n : Int) % ((cells.map V.int).length : Nat))) _ _ _
    rw [hs]
    refine ⟨_, rfl, st, _, rfl, g1 (dS_lefts ca la (n + 1)), _, rfl, la, _, _, _, rfl, rfl, .inl (.inl e3), al, ?_⟩
    refine ⟨_, rfl, _, _, rfl, rfl, _, rfl, ?_⟩
    by_cases c0 : 0 < le
    · rw [decide_eq_true c0]
      refine ⟨_, rfl, _, rfl, _, _, rfl, rfl, dv, _, rfl, st, _, rfl, g1 (dS_lefts ca la (n + 1)), _, rfl, la, _, _, sp, rfl, rfl, e3, ?_, ?_⟩
      · show ixN (lefts.map V.int).length (sp : Int) = some sp
        rw [List.length_map]
        unfold ixN
        rw [if_pos (by omega), if_pos (by omega)]
        simp
      · refine ⟨_, rfl, .inl ⟨_, rfl, _, rfl, _, _, rfl, rfl, d0, ?_⟩⟩
        refine q _ _ (Int.emod_nonneg _ (by omega)) (Int.emod_lt_of_pos _ d0) ?_ ?_
        · exact fun b b1 b2 => (upd_ne b2).trans (sd1 b b1 b2)
        · refine ⟨cells, lefts.set sp (le / limit), ?_, ?_, ?_, ?_, hp, hz, hc⟩
          · rw [upd_ne (Ne.symm nlt)]
            exact e1
          · rw [upd_ne hc]
            exact e2
          · rw [upd_same, List.map_set]
          · rw [List.length_set]
            exact hl
    · rw [decide_eq_false c0]
      refine ⟨_, rfl, st, _, rfl, g1 (dS_cells ca la (n + 1)), _, rfl, ca, _, _, _, rfl, rfl, .inl (.inl e2), ac, _, rfl, _, _, rfl, by omega, by omega, fun r1 r10 r11 => ?_⟩
      refine ⟨_, rfl, _, _, rfl, rfl, _, _, rfl, by omega, by omega, fun r2 r20 r21 => ?_⟩
      refine ⟨_, rfl, _, _, rfl, rfl, .inl ⟨by omega, by omega⟩, _, rfl, _, rfl, _, _, rfl, rfl, _, _, rfl, by omega, by omega, fun r3 r30 r31 => ?_⟩
      refine ⟨_, _, rfl, rfl, .inl ⟨_, rfl, _, _, rfl, rfl, ⟨by decide, by decide⟩, _, rfl, _, _, rfl, rfl, d0, ?_⟩⟩
      exact q _ _ (Int.emod_nonneg _ (by omega)) (Int.emod_lt_of_pos _ d0) sd1 stH1
end
end K2
set_option Elab.async false
set_option linter.all false
set_option maxRecDepth 100000
set_option maxHeartbeats 4000000
/-! R2: the law's state. -/
namespace K2
open PySem PySem.Spec PyProof.Rows L2 BK LamX
theorem same_new {H H' : Hp} {p : Addr} {o : HO} (e : Same H H') (h : H' p = none) : Same H (upd H' p o) := fun b u x => by
  rw [upd_ne (ne_of_none (e b u x) h)]
  exact e b u x
def spBegin (K : PySem.W.Frag) : Sp := fun vs H Q _ => ∃ (a : Addr) (ns : List Int), vs = [.ref a] ∧ SqL K H a (ns.map V.int) ∧ ns.length ≤ 63 ∧ ∀ (st la ca : Addr) (H' : Hp), Same H H' → H st = none → H la = none → StH st la ca 0 H' → Q (.ref st) H'
theorem canLay_ints : ∀ ns : List Int, PyData.canLayAll0 (ns.map .int) = true
  | [] => by simp [PyData.canLayAll0]
  | n :: ns => by simp [PyData.canLayAll0, PyData.canLay0, canLay_ints ns]
theorem dep_ints : ∀ ns : List Int, PyData.depthAll (ns.map .int) = 0
  | [] => by simp [PyData.depthAll]
  | n :: ns => by simp [PyData.depthAll, PyData.depth, dep_ints ns]
theorem shaped_ints (ns : List Int) : SeqAt.shaped (.list (ns.map .int)) = true := by
  simp [SeqAt.shaped, PyData.canLay0, canLay_ints, PyData.depth, dep_ints]
section
variable {P : Program} {w : World} {K : PySem.W.Frag} {mg : Str → Option Value} {base : Heap}
theorem hu_rep {k : Nat} {A : Around} (hr : Room k A) : A.units + 110 < cLine := by
  have := hr.un
  omega
theorem hu_64 {k : Nat} {A : Around} (hr : Room k A) : A.units + 64 < cLine := by
  have := hr.un
  omega
/-- list(script) if script != [] else [0] -/
theorem begin_read {σ : L2.St} {H : Hp} {a : Addr} {ns : List Int} {Q : VK} (h0 : σ[0]? = some (some (V.ref a))) (ha : SqL K H a (ns.map V.int)) (hn : ns.length ≤ 63)
    (h : ∀ (l : Addr) (H1 : Hp) (cells : List Int), Same H H1 → H1 l = some (.lst (cells.map V.int)) → 0 < cells.length → cells.length ≤ 64 → Q (.ref l) H1) :
    tIf (tTest (tOp (rNeD K) (tVar 0) (tLst tNil))) (tCB (fun xs H Q => ∃ p ys, xs = [.ref p] ∧ (SqL K H p ys ∨ SqT K H p ys) ∧ ∀ l, H l = none → Q (.ref l) (upd H l (.lst ys))) (tCons (tVar 0) tNil)) (tLst (tCons (tC (.int 0)) tNil)) σ H Q := by
  refine ⟨_, h0, Nat.zero_le _, fun p hp => ?_⟩
  have s0 : Same H (upd H p (.lst [])) := same_new (Same.refl H) hp
  have hs := sql_same s0 ha
  refine ⟨.list (ns.map .int), .list [], .lst hs (dpAll_of (RepAll.ints ns)), .lst (SqL.of upd_same) .nil, shaped_ints ns, by decide +kernel, _, rfl, ?_⟩
  cases ns with
  | nil =>
    refine ⟨by rw [sizeLine_eq]; simp, fun q hq => h q _ [0] (same_new s0 hq) upd_same (by decide) (by decide)⟩
  | cons n ns =>
    refine ⟨_, h0, a, _, rfl, .inl hs, fun l hl => h l _ (n :: ns) (same_new s0 hl) upd_same (by simp) (by simp at hn ⊢; omega)⟩
theorem scBegin : FnScope ["script", "cells_so", "cell"] ["script"] (defScope sBegin) := ⟨rfl, rfl, rfl, by decide +kernel, rfl, by decide +kernel, by decide +kernel⟩
theorem def_begin (B : Bl mg) (F : At K mg "_law_begin" sBegin ["script"]) : Def P w K mg base CX0 1 "_law_begin" ["script"] (spBegin K) := by
  refine F.ok scBegin (fun vs H Q E h => ?_) (fun f cdv A outer s H vs Q E hr h => ?_)
  · obtain ⟨a, ns, rfl, _⟩ := h
    rfl
  · obtain ⟨a, ns, rfl, ha, hn, q⟩ := h
    refine ⟨_, pss_cons (ps_set (i := 1) scBegin.nd rfl (Or.inl rfl) (pe_ifExp (pt_cmpR (op_neD (hu_64 hr)) (pv 0) (pe_lst pa_nil) (nomark _)) (pe_callTy call_list_of (by rfl) B.lst sList (pa_cons (pv 0) pa_nil)) (pe_lst (pa_cons pe_int pa_nil))))
      (pss_one (ps_ret (pe_disp (pps_cons pe_str (pv 1) (pps_cons pe_str
        (pe_lc (own := [("cell", 2)]) (g := gName 2) (tt := tYes) rfl scBegin.nd (pi_list (pv 1)) (blkOk_by (N := ["script", "cells_so", "cell"]) (sc := defScope sBegin) (by decide +kernel)) (fun _ _ _ _ _ => pg_name (i := 2) scBegin.nd rfl (Or.inl rfl)) (fun _ _ _ _ _ => pts_nil)
          (fun _ _ _ _ _ => pe_ifExp (pt_cmpR op_ge (pv 2) (pe_op op_pow pe_int pe_int) rfl) (pv 2) pe_int))
        (pps_cons pe_str pe_int pps_nil))) rfl rfl (by decide) (by decide)))), ?_⟩
    refine begin_read (K := K) rfl ha hn fun l H1 cells s1 hl1 c0 c1 => ?_
    refine fun p hp => ⟨_, rfl, _, rfl, l, rfl, ⟨_, SqL.of (by rw [upd_ne (ne_of_none hl1 hp)]; exact hl1)⟩, fun D hD => ?_⟩
    have np : D ≠ p := fun z => by rw [z, upd_same] at hD; cases hD
    have nl : D ≠ l := fun z => by rw [z, upd_ne (ne_of_none hl1 hp), hl1] at hD; cases hD
    have npl : p ≠ l := fun z => by rw [z, hl1] at hp; cases hp
    let lf : List Int := cells.map fun c => if c ≥ 10 ^ 18 then c else 0
    refine lc_list (K := K) (xs := cells.map V.int) (fun k H2 => (∀ b, b ≠ D → H2 b = upd H1 p (.dK []) b) ∧ H2 D = some (.lst ((lf.take k).map V.int))) ?_ ?_ ?_ ?_
    · exact ⟨fun b hb => upd_ne hb, upd_same⟩
    · rintro k H2 hk ⟨s2, h2⟩
      refine SqL.of ?_
      rw [s2 l (Ne.symm nl), upd_ne (Ne.symm npl)]
      exact hl1
    · rintro k x H2 hx ⟨s2, h2⟩
      obtain ⟨c, hc, rfl⟩ : ∃ c, cells[k]? = some c ∧ x = V.int c := by
        rw [List.getElem?_map] at hx
        cases e : cells[k]? with
        | none => rw [e] at hx; cases hx
        | some u => rw [e] at hx; exact ⟨u, rfl, (Option.some.inj hx).symm⟩
      have kl : k < cells.length := (List.getElem?_eq_some_iff.mp hc).1
      have lk : lf[k]? = some (if c ≥ 10 ^ 18 then c else 0) := by simp only [lf, List.getElem?_map, hc, Option.map_some]
      have next : ∀ v : Int, v = (if c ≥ 10 ^ 18 then c else 0) → ∃ acc, H2 D = some (.lst acc) ∧ acc.length < sizeLine ∧ ((∀ b, b ≠ D → upd H2 D (.lst (acc ++ [V.int v])) b = upd H1 p (.dK []) b) ∧ upd H2 D (.lst (acc ++ [V.int v])) D = some (.lst ((lf.take (k + 1)).map V.int))) := by
        rintro v rfl
        refine ⟨_, h2, by rw [sizeLine_eq, List.length_map, List.length_take]; omega, fun b hb => by rw [upd_ne hb]; exact s2 b hb, ?_⟩
        rw [upd_same, List.take_add_one, lk, List.map_append]
        rfl
      refine ⟨rfl, yes ?_⟩
      rw [if_pos rfl]
      refine ⟨_, rfl, _, _, rfl, rfl, ⟨by decide, by decide, by decide⟩, _, _, rfl, rfl, _, rfl, ?_⟩
      by_cases g : (10 : Int) ^ 18 ≤ c
      · rw [decide_eq_true (show (10 : Int) ^ (18 : Int).toNat ≤ c from g)]
        exact ⟨_, rfl, next c (if_pos g).symm⟩
      · rw [decide_eq_false (show ¬ (10 : Int) ^ (18 : Int).toNat ≤ c from g)]
        exact next 0 (if_neg g).symm
    · rintro H2 ⟨s2, h2⟩
      have fin : lf.take (cells.map V.int).length = lf := by
        rw [List.length_map]
        exact List.take_of_length_le (by simp [lf])
      rw [fin] at h2
      refine ⟨?_, [(.inr "cells", .ref l), (.inr "lefts", .ref D), (.inr "at", .int 0)], rfl, (by show 3 ≤ 15; decide), ?_⟩
      · rw [s2 p (Ne.symm np)]
        exact upd_same
      · refine q p D l _ ?_ ?_ ?_ ?_
        · intro b o e
          have e1 := s1 b o e
          have b1 : b ≠ p := fun z => by rw [z, hp] at e1; cases e1
          have b2 : b ≠ D := fun z => by rw [z] at e1 b1; rw [upd_ne b1, e1] at hD; cases hD
          rw [upd_ne b1, s2 b b2, upd_ne b1]
          exact e1
        · exact s1.free hp
        · rw [upd_ne np] at hD
          exact s1.free hD
        · refine ⟨cells, lf, upd_same, ?_, ?_, by simp [lf], c0, c1, Ne.symm nl⟩
          · rw [upd_ne (Ne.symm npl), s2 l (Ne.symm nl), upd_ne (Ne.symm npl)]
            exact hl1
          · rw [upd_ne np]
            exact h2
def spLike (K : PySem.W.Frag) : Sp := fun vs H Q _ => ∃ (x y : V) (d : PyData) (n k : Nat), vs = [x, y] ∧ Rep K H x d ∧ Rep K H y d ∧ Shw d n k ∧ n ≤ 16777216 ∧ k ≤ 100 ∧ Q (.bl true) H
theorem scLike : FnScope ["got", "due"] ["got", "due"] (defScope sLike) := ⟨rfl, rfl, rfl, by decide +kernel, rfl, by decide +kernel, by decide +kernel⟩
theorem def_like (B : Bl mg) (F : At K mg "_law_like" sLike ["got", "due"]) : DefG P w K mg base 1 "_law_like" ["got", "due"] (spLike K) := by
  refine F.okG scLike (fun vs H Q E h => ?_) (fun f cdv A outer s H vs Q E hg hr h => ?_)
  · obtain ⟨x, y, d, n, k, rfl, _⟩ := h
    rfl
  · obtain ⟨x, y, d, n, k, rfl, ha, hb, sh, hn, hk, q⟩ := h
    have un := hu_rep hr
    refine ⟨_, pss_one (ps_ret (pe_cmpR op_eq (pe_callB (call_reprV hg un) (by rfl) B.rep sRepr (pa_cons (pv 0) pa_nil)) (pe_callB (call_reprV hg un) (by rfl) B.rep sRepr (pa_cons (pv 1) pa_nil)) (nomark _))), ?_⟩
    have dk : d.depth ≤ 100 := Nat.le_trans sh.dep hk
    refine ⟨_, rfl, x, d, n, rfl, ha, sh.fine, hn, dk, _, rfl, y, d, n, rfl, hb, sh.fine, hn, dk, rfl, ?_⟩
    rw [decide_eq_true rfl]
    exact q
end
end K2
set_option Elab.async false
set_option linter.all false
set_option maxRecDepth 100000
set_option maxHeartbeats 4000000
/-! R3: heaps in which the state has moved on; drawn sizes. -/
namespace K2
open PySem PySem.Spec PyProof.Rows L2 BK LamX
/-- all but the tables and the state stays -/
structure Gs (T : List (Addr × Str)) (st la : Addr) (H H' : Hp) : Prop where
  ext : ∀ b o, b ≠ st → b ≠ la → H b = some o → (∀ ps, o ≠ .tbl ps) → H' b = some o
  tb : Tabs T H'
section
variable {T : List (Addr × Str)} {st la ca : Addr} {n : Nat}
theorem Gs.refl {H : Hp} (t : Tabs T H) : Gs T st la H H := ⟨fun _ _ _ _ e _ => e, t⟩
theorem Gs.trans {H H1 H2 : Hp} (a : Gs T st la H H1) (b : Gs T st la H1 H2) : Gs T st la H H2 := ⟨fun c o h1 h2 e n => b.ext c o h1 h2 (a.ext c o h1 h2 e n) n, b.tb⟩
theorem Gs.of {H H' : Hp} (a : Gq T H H') : Gs T st la H H' := ⟨fun b o _ _ e n => a.ext b o e n, a.tb⟩
theorem Gs.grow {H H1 H2 : Hp} (a : Gs T st la H H1) (b : Gq T H1 H2) : Gs T st la H H2 := a.trans (.of b)
theorem StH.atS {H : Hp} (S : StH st la ca n H) : H st = some (.dK (dS ca la n)) := by
  obtain ⟨_, _, h, _⟩ := S.ex
  exact h
theorem StH.atL {H : Hp} (S : StH st la ca n H) : ∃ ys, H la = some (.lst ys) := by
  obtain ⟨_, _, _, _, h, _⟩ := S.ex
  exact ⟨_, h⟩
theorem StH.atC {H : Hp} (S : StH st la ca n H) : ∃ ys, H ca = some (.lst ys) := by
  obtain ⟨_, _, _, h, _⟩ := S.ex
  exact ⟨_, h⟩
theorem StH.ext {H H' : Hp} (S : StH st la ca n H) (e : ExtN H H') : StH st la ca n H' := by
  obtain ⟨c, l, h1, h2, h3, r⟩ := S.ex
  exact ⟨c, l, e _ _ h1 (fun ps z => by cases z), e _ _ h2 (fun ps z => by cases z), e _ _ h3 (fun ps z => by cases z), r⟩
/-- an object that was not there is written -/
theorem StH.mut {H H1 : Hp} {D : Addr} {o : HO} (S0 : StH st la ca m H) (S : StH st la ca n H1) (hD : H D = none) : StH st la ca n (upd H1 D o) := by
  obtain ⟨c, l, h1, h2, h3, r⟩ := S.ex
  obtain ⟨_, _, a1, a2, a3, _⟩ := S0.ex
  have d1 : st ≠ D := ne_of_none a1 hD
  have d2 : ca ≠ D := ne_of_none a2 hD
  have d3 : la ≠ D := ne_of_none a3 hD
  exact ⟨c, l, by rw [upd_ne d1]; exact h1, by rw [upd_ne d2]; exact h2, by rw [upd_ne d3]; exact h3, r⟩
theorem Gs.drew {H H' : Hp} (t : Tabs T H) (S : StH st la ca n H) (sd : Sd st la H H') : Gs T st la H H' := by
  obtain ⟨ys, hl⟩ := S.atL
  refine ⟨fun b o h1 h2 e _ => by rw [sd b h1 h2]; exact e, fun p hp => ?_⟩
  obtain ⟨ps, h1, h2, h3⟩ := t p hp
  have away : ∀ {b o}, H b = some o → (∀ kvs, o ≠ .dK kvs) → (∀ ys, o ≠ .lst ys) → H' b = some o := fun {b o} e n1 n2 => by
    rw [sd b (fun z => by rw [z, S.atS] at e; cases e; exact n1 _ rfl) (fun z => by rw [z, hl] at e; cases e; exact n2 _ rfl)]
    exact e
  refine ⟨ps, away h1 (fun _ z => by cases z) (fun _ z => by cases z), h2, fun pos cv hc => ?_⟩
  obtain ⟨c, r1, r2⟩ := h3 pos cv hc
  exact ⟨c, r1, away r2 (fun _ z => by cases z) (fun _ z => by cases z)⟩
theorem Gs.new {H H1 : Hp} {p : Addr} {o : HO} (a : Gs T st la H H1) (h : H1 p = none) : Gs T st la H (upd H1 p o) := a.grow ((Gq.refl a.tb).new h)
/-- a list that was not there at H is written -/
theorem Gs.wrote {H H1 : Hp} {p : Addr} {xs : List V} {o : HO} (a : Gs T st la H H1) (n : H p = none) (h : H1 p = some (.lst xs)) : Gs T st la H (upd H1 p o) := by
  refine ⟨fun b u h1 h2 e nn => by rw [upd_ne (ne_of_none e n)]; exact a.ext b u h1 h2 e nn, fun q hq => ?_⟩
  obtain ⟨ps, h1, h2, h3⟩ := a.tb q hq
  have np : q.1 ≠ p := fun z => by rw [z, h] at h1; cases h1
  refine ⟨ps, by rw [upd_ne np]; exact h1, h2, fun pos cv hc => ?_⟩
  obtain ⟨c, r1, r2⟩ := h3 pos cv hc
  exact ⟨c, r1, by rw [upd_ne (fun z => by rw [z, h] at r2; cases r2)]; exact r2⟩
theorem Gs.tup {K : PySem.W.Frag} {H H' : Hp} {a : Addr} {xs : List V} (g : Gs T st la H H') (S : StH st la ca n H) (h : SqT K H a xs) : SqT K H' a xs := by
  obtain ⟨ys, hl⟩ := S.atL
  rcases h with (q | ⟨o', q⟩) | q
  · exact .inl (.inl (g.ext a _ (fun z => by rw [z, S.atS] at q; cases q) (fun z => by rw [z, hl] at q; cases q) q fun ps z => by cases z))
  · exact .inl (.inr ⟨o', g.ext a _ (fun z => by rw [z, S.atS] at q; cases q) (fun z => by rw [z, hl] at q; cases q) q fun ps z => by cases z⟩)
  · exact .inr q
mutual
theorem Gs.rep {K : PySem.W.Frag} {H H' : Hp} (g : Gs T st la H H') (S : StH st la ca n H) : ∀ {v : V} {d : PyData}, Rep K H v d → BK.noL d = true → Rep K H' v d
  | _, _, .non, _ => .non
  | _, _, .bl b, _ => .bl b
  | _, _, .int i, _ => .int i
  | _, _, .str x, _ => .str x
  | _, _, .lst _ _, n => by simp [BK.noL] at n
  | _, _, .tup hs r, n => .tup (g.tup S hs) (Gs.repA g S r (by simpa [BK.noL] using n))
theorem Gs.repA {K : PySem.W.Frag} {H H' : Hp} (g : Gs T st la H H') (S : StH st la ca n H) : ∀ {vs : List V} {ds : List PyData}, RepAll K H vs ds → BK.noL.noLA ds = true → RepAll K H' vs ds
  | _, _, .nil, _ => .nil
  | _, _, .cons hd r, n => by
    simp only [BK.noL.noLA, Bool.and_eq_true] at n
    exact .cons (Gs.rep g S hd n.1) (Gs.repA g S r n.2)
end
theorem Gs.it {K : PySem.W.Frag} {H H' : Hp} (g : Gs T st la H H') (S : StH st la ca n H) {v : V} {d : PyData} {k : Nat} (r : Rep K H v d) (h : IT k d) : Rep K H' v d := g.rep S r h.noL
end
structure SmallSz (ss : List Nat) : Prop where
  lo : 1 ≤ ss.length
  len : ss.length ≤ 4
  all : ∀ s ∈ ss, 1 ≤ s ∧ s ≤ 4
theorem SmallSz.ok {ss : List Nat} (h : SmallSz ss) : SzOk ss := ⟨by have := h.len; omega, fun s hs => by have := h.all s hs; omega⟩
def spMany (K : PySem.W.Frag) (T : List (Addr × Str)) : Sp := fun vs H Q _ => ∃ (st la ca : Addr) (n : Nat), vs = [.ref st] ∧ StH st la ca n H ∧ n ≤ 90000 ∧ Tabs T H ∧
  ∀ v ss n' H', SmallSz ss → n' ≤ n + 5 → Gs T st la H H' → StH st la ca n' H' → Rep K H' v (dN ss) → Q v H'
section
variable {P : Program} {w : World} {K : PySem.W.Frag} {mg : Str → Option Value} {base : Heap} {T : List (Addr × Str)}
theorem scMany : FnScope ["state", "step"] ["state"] (defScope sMany) := ⟨rfl, rfl, rfl, by decide +kernel, rfl, by decide +kernel, by decide +kernel⟩
theorem def_many (B : Bl mg) (Dr : Def P w K mg base CX0 2 "_law_draw" ["state", "limit"] spDraw) (F : At K mg "_law_many" sMany ["state"]) : Def P w K mg base CX0 3 "_law_many" ["state"] (spMany K T) := by
  refine F.ok scMany (fun vs H Q E h => ?_) (fun f cdv A outer s H vs Q E hr h => ?_)
  · obtain ⟨st, la, ca, n, rfl, _⟩ := h
    rfl
  · obtain ⟨st, la, ca, n, rfl, S, hn, tb, q⟩ := h
    refine ⟨_, pss_one (ps_ret (pe_callTy call_tuple_of (by rfl) B.tup sTup (pa_cons (pe_lc (own := [("step", 1)]) (g := gName 1) (tt := tYes) rfl scMany.nd
        (pi_range1 (by rfl) B.rng (pa_cons (pe_op op_add pe_int (pe_def Dr hr (by rfl) pass0 (pa_cons (pv 0) (pa_cons pe_int pa_nil)))) pa_nil))
        (blkOk_by (N := ["state", "step"]) (sc := defScope sMany) (by decide +kernel)) (fun _ _ _ _ _ => pg_name (i := 1) scMany.nd rfl (Or.inl rfl)) (fun _ _ _ _ _ => pts_nil)
        (fun _ _ _ _ _ => pe_op op_add pe_int (pe_def Dr hr (by rfl) pass0 (pa_cons (pv 0) (pa_cons pe_int pa_nil))))) pa_nil))), ?_⟩
    refine ⟨_, rfl, st, la, ca, n, 4, rfl, S, by omega, by decide, by decide, fun r H1 r0 r1 sd S1 => ?_⟩
    have g1 := Gs.drew tb S sd
    refine ⟨_, _, rfl, rfl, _, rfl, by omega, by omega, fun D hD => ?_⟩
    refine lc_range (lo := 0) (n := (1 + r).toNat) (fun k H2 => ∃ ss : List Nat, ss.length = k ∧ (∀ s ∈ ss, 1 ≤ s ∧ s ≤ 4) ∧ StH st la ca (n + 1 + k) H2 ∧ Gs T st la H1 H2 ∧ H2 D = some (.lst (ss.map fun s => V.int (s : Nat)))) ?_ ?_ ?_
    · exact ⟨[], rfl, (fun s hs => by cases hs), S1.ext (ext_new hD), (Gs.refl g1.tb).new hD, upd_same⟩
    · rintro k H2 hk ⟨ss, hl, ha, S2, g2, h2⟩
      refine ⟨rfl, yes ?_⟩
      rw [if_pos rfl]
      refine ⟨_, rfl, st, la, ca, _, 4, rfl, S2, by omega, by decide, by decide, fun r2 H3 r20 r21 sd2 S3 => ?_⟩
      refine ⟨_, _, rfl, rfl, ?_⟩
      have g3 := g2.trans (Gs.drew g2.tb S2 sd2)
      have dst : D ≠ st := fun z => by rw [z, S1.atS] at hD; cases hD
      have dla : D ≠ la := fun z => by
        obtain ⟨ys, hy⟩ := S1.atL
        rw [z, hy] at hD
        cases hD
      have h3 : H3 D = some (.lst (ss.map fun s => V.int (s : Nat))) := by rw [sd2 D dst dla]; exact h2
      refine ⟨_, h3, by rw [sizeLine_eq, List.length_map]; omega, ss ++ [(1 + r2).toNat], by simp [hl], fun s hs => ?_, StH.mut S1 S3 hD, g3.wrote hD h3, ?_⟩
      · rcases List.mem_append.mp hs with z | z
        · exact ha s z
        · rw [List.mem_singleton.mp z]
          omega
      · rw [upd_same, List.map_append]
        have e : ((1 + r2).toNat : Int) = 1 + r2 := by omega
        show some (HO.lst (_ ++ [V.int (1 + r2)])) = some (HO.lst (_ ++ [V.int ((1 + r2).toNat : Int)]))
        rw [e]
    · rintro H2 ⟨ss, hl, ha, S2, g2, h2⟩
      refine ⟨D, _, rfl, .inl ⟨SqL.of h2, fun U hU => ?_⟩⟩
      have gu := (Gq.refl g2.tb).new (o := .tup (ss.map fun s => V.int (s : Nat))) hU
      refine q _ ss (n + 1 + (1 + r).toNat) _ ⟨by omega, by omega, ha⟩ (by omega) ((g1.trans g2).grow gu) (S2.ext gu.ext) (.tup (.inl (.inl upd_same)) ?_)
      exact rep_nats ss
where
  rep_nats {K : PySem.W.Frag} {H : Hp} : ∀ ss : List Nat, RepAll K H (ss.map fun s => V.int (s : Nat)) (ss.map fun s => .int (s : Nat))
  | [] => .nil
  | s :: ss => .cons (.int _) (rep_nats ss)
end
end K2
set_option Elab.async false
set_option linter.all false
set_option maxRecDepth 100000
set_option maxHeartbeats 4000000
/-! R4: drawn weights. -/
namespace K2
open PySem PySem.Spec PyProof.Rows L2 BK LamX
theorem tm_snoc {ss : List Nat} {c s : Nat} {ws : List Int} (hs : ss[c]? = some s) (hl : ws.length = s) (h1 : 1 ≤ s) : ∀ {ts : List Trm} {k : Nat}, TmOk ss k ts → (∀ t ∈ ts, t.1 < c) → k ≤ c → TmOk ss k (ts ++ [(c, ws)])
  | [], k, _, _, h => ⟨h, ⟨s, hs, hl, h1⟩, True.intro⟩
  | t :: ts, k, ⟨a, b, d⟩, lt, h => ⟨a, b, tm_snoc hs hl h1 d (fun u hu => lt u (List.mem_cons_of_mem _ hu)) (lt t List.mem_cons_self)⟩
/-- weights that are not too great -/
def BigOk (m : Nat) (ts : List Trm) : Prop := ∀ t ∈ ts, ∀ x ∈ t.2, x.natAbs ≤ m
def spDrawn (K : PySem.W.Frag) (T : List (Addr × Str)) : Sp := fun vs H Q _ => ∃ (st la ca : Addr) (n : Nat) (x : V) (ss : List Nat), vs = [.ref st, x] ∧ StH st la ca n H ∧ n ≤ 90000 ∧ Rep K H x (dN ss) ∧ SmallSz ss ∧ Tabs T H ∧
  ∀ v ts n' H', TmOk ss 0 ts → BigOk (3 * 10 ^ 20) ts → n' ≤ n + 21 → Gs T st la H H' → StH st la ca n' H' → Rep K H' v (dTs ts) → Q v H'
section
variable {P : Program} {w : World} {K : PySem.W.Frag} {mg : Str → Option Value} {base : Heap} {T : List (Addr × Str)}
theorem scDrawn : FnScope ["state", "sizes_so", "found", "wide", "spot", "size", "weights_so", "step"] ["state", "sizes_so"] (defScope sDrawn) := ⟨rfl, rfl, rfl, by decide +kernel, rfl, by decide +kernel, by decide +kernel⟩
theorem wide_of {j : Int} (h0 : 0 ≤ j) (h1 : j < 3) : ∃ w : Int, atI [V.int 1, .int 3, .int (10 ^ 20)] j = some (.int w) ∧ 0 ≤ w ∧ w ≤ 10 ^ 20 := by
  have : j = 0 ∨ j = 1 ∨ j = 2 := by omega
  rcases this with rfl | rfl | rfl
  · exact ⟨1, (atI_nat (j := 0) rfl), by decide, by decide⟩
  · exact ⟨3, (atI_nat (j := 1) rfl), by decide, by decide⟩
  · exact ⟨10 ^ 20, (atI_nat (j := 2) rfl), by decide, by decide⟩
theorem mul_small {r w : Int} (r0 : 0 ≤ r) (r1 : r < 7) (w0 : 0 ≤ w) (w1 : w ≤ 10 ^ 20) : ((r - 3) * w).natAbs ≤ 3 * 10 ^ 20 := by
  rw [Int.natAbs_mul]
  exact Nat.mul_le_mul (by omega) (by omega)
theorem def_drawn (B : Bl mg) (Dr : Def P w K mg base CX0 2 "_law_draw" ["state", "limit"] spDraw) (F : At K mg "_law_drawn" sDrawn ["state", "sizes_so"]) : Def P w K mg base CX0 3 "_law_drawn" ["state", "sizes_so"] (spDrawn K T) := by
  refine F.ok scDrawn (fun vs H Q E h => ?_) (fun f cdv A outer s H vs Q E hr h => ?_)
  · obtain ⟨st, la, ca, n, x, ss, rfl, _⟩ := h
    rfl
  · obtain ⟨st, la, ca, n, x, ss, rfl, S, hn, hx, sm, tb, q⟩ := h
    refine ⟨_, pss_cons (ps_asg (pe_tup (pa_cons (pe_tup pa_nil) (pa_cons (pe_ix ix_list (pe_lst (pa_cons pe_int (pa_cons pe_int (pa_cons (pe_op op_pow pe_int pe_int) pa_nil)))) (pe_def Dr hr (by rfl) pass0 (pa_cons (pv 0) (pa_cons pe_int pa_nil))) (fun _ _ => rfl)) pa_nil)))
        (pg_tup rfl (pgs_cons (pg_name (i := 2) scDrawn.nd rfl (Or.inl rfl)) (pgs_cons (pg_name (i := 3) scDrawn.nd rfl (Or.inr rfl)) pgs_nil))))
      (pss_cons (ps_for PassesOwn.never rfl (pi_enumT (by rfl) B.enu (pa_cons (pv 1) pa_nil)) (pg_tup rfl (pgs_cons (pg_name (i := 4) scDrawn.nd rfl (Or.inl rfl)) (pgs_cons (pg_name (i := 5) scDrawn.nd rfl (Or.inl rfl)) pgs_nil)))
        (pss_one (ps_if (pt_cmpR op_gt (pe_def Dr hr (by rfl) pass0 (pa_cons (pv 0) (pa_cons pe_int pa_nil))) pe_int (nomark _))
          (pss_cons (ps_set (i := 6) scDrawn.nd rfl (Or.inl rfl) (pe_callTy call_tuple_of (by rfl) B.tup sTup (pa_cons (pe_lc (own := [("step", 7)]) (g := gName 7) (tt := tYes) rfl scDrawn.nd (pi_range1 (by rfl) B.rng (pa_cons (pv 5) pa_nil))
              (blkOk_by (N := ["state", "sizes_so", "found", "wide", "spot", "size", "weights_so", "step"]) (sc := defScope sDrawn) (by decide +kernel)) (fun _ _ _ _ _ => pg_name (i := 7) scDrawn.nd rfl (Or.inl rfl)) (fun _ _ _ _ _ => pts_nil)
              (fun _ _ _ _ _ => pe_op op_mul (pe_op op_sub (pe_def Dr hr (by rfl) pass0 (pa_cons (pv 0) (pa_cons pe_int pa_nil))) pe_int) (pv 3))) pa_nil)))
          (pss_one (ps_set (i := 2) scDrawn.nd rfl (Or.inl rfl) (pe_op op_catA (pv 2) (pe_tup (pa_cons (pe_tup (pa_cons (pv 4) (pa_cons (pv 6) pa_nil))) pa_nil)))))) pss_nil)))
      (pss_one (ps_ret (pv 2)))), ?_⟩
    obtain ⟨xa, rfl, hs⟩ := repN hx
    have sl := sm.len
    refine ⟨by show 0 ≤ sizeLine; decide, fun e0 he0 => ?_⟩
    have g0 : Gq T H (upd H e0 (.tup [])) := (Gq.refl tb).new he0
    have S0 := S.ext g0.ext
    refine ⟨_, _, rfl, rfl, ⟨by decide, by decide, by decide⟩, by show 3 ≤ sizeLine; decide, fun e1 he1 => ?_⟩
    have g1 := g0.new (o := .lst [.int 1, .int 3, .int (10 ^ (20 : Int).toNat)]) he1
    have S1 := S.ext g1.ext
    refine ⟨_, rfl, st, la, ca, n, 3, rfl, S1, by omega, by decide, by decide, fun j H2 j0 j1 sd S2 => ?_⟩
    have g2 := Gs.drew g1.tb S1 sd
    obtain ⟨wd, hw, w0, w1⟩ := wide_of j0 j1
    have n1 : e1 ≠ st := fun z => by rw [z] at he1; rw [S0.atS] at he1; cases he1
    have n2 : e1 ≠ la := fun z => by
      obtain ⟨ys, hy⟩ := S0.atL
      rw [z, hy] at he1
      cases he1
    have a1 : H2 e1 = some (.lst [.int 1, .int 3, .int (10 ^ 20)]) := by rw [sd e1 n1 n2, upd_same]; rfl
    have ne0 : e0 ≠ e1 := fun z => by rw [← z, upd_same] at he1; cases he1
    have a0 : H2 e0 = some (.tup []) := by
      have k0 : (upd (upd H e0 (.tup [])) e1 (.lst [.int 1, .int 3, .int (10 ^ (20 : Int).toNat)])) e0 = some (.tup []) := by rw [upd_ne ne0, upd_same]
      refine g2.ext e0 _ (fun z => ?_) (fun z => ?_) k0 fun ps z => by cases z
      · rw [z, S.atS] at he0; cases he0
      · obtain ⟨ys, hy⟩ := S.atL
        rw [z, hy] at he0; cases he0
    refine ⟨e1, _, _, _, rfl, rfl, SqL.of a1, hw, by show 2 ≤ sizeLine; decide, fun e2 he2 => ?_⟩
    have g3 : Gs T st la H (upd H2 e2 (.tup [.ref e0, .int wd])) := ((Gs.of g1).trans g2).new he2
    have S3 : StH st la ca (n + 1) (upd H2 e2 (.tup [.ref e0, .int wd])) := S2.ext (ext_new he2)
    refine ⟨e2, _, rfl, .inl (.inl upd_same), rfl, _, _, rfl, _, _, rfl, rfl, ?_⟩
    have f0 : Rep K (upd H2 e2 (.tup [.ref e0, .int wd])) (.ref e0) (dTs []) := .tup (.inl (.inl (by rw [upd_ne (ne_of_none a0 he2)]; exact a0))) .nil
    refine ⟨_, rfl, xa, _, rfl, g3.tup S hs, for_enumT (K := K) (a := xa) (xs := ss.map fun s => V.int (s : Nat)) (fun i σ H' => ∃ (ts : List Trm) (n' : Nat) (fv : V) (s4 s5 s6 : Option V), TmOk ss 0 ts ∧ (∀ t ∈ ts, t.1 < i) ∧ BigOk (3 * 10 ^ 20) ts ∧ n' ≤ n + 1 + 5 * i ∧ ts.length ≤ i ∧
        StH st la ca n' H' ∧ Gs T st la H H' ∧ Rep K H' fv (dTs ts) ∧ σ = [some (.ref st), some (.ref xa), some fv, some (.int wd), s4, s5, s6, none]) ?_ ?_ ?_ ?_⟩
    · exact ⟨[], n + 1, _, none, none, none, True.intro, (fun t ht => by cases ht), (fun t ht => by cases ht), by omega, Nat.le_refl _, S3, g3, f0, rfl⟩
    · rintro i σ H' _ ⟨_, _, _, _, _, _, _, _, _, _, _, _, g, _⟩
      exact g.tup S hs
    · rintro i x σ H' U hi ⟨ts, n', fv, s4, s5, s6, tk, lt, bg, hn', tl, SH, g, rf, rfl⟩ hU
      obtain ⟨sz, hsz, rfl⟩ := nat_at hi
      have il : i < ss.length := (List.getElem?_eq_some_iff.mp hsz).1
      obtain ⟨z1, z4⟩ := sm.all sz (List.mem_of_getElem? hsz)
      have g4 := g.new (o := .tup [.int (i : Nat), .int (sz : Nat)]) hU
      have S4 := SH.ext (ext_new (o := .tup [.int (i : Nat), .int (sz : Nat)]) hU)
      have rf4 : Rep K (upd H' U (.tup [.int (i : Nat), .int (sz : Nat)])) fv (dTs ts) := rf.ext (ext_new hU)
      refine ⟨U, _, rfl, .inl (.inl upd_same), rfl, _, _, rfl, _, _, rfl, rfl, ?_⟩
      refine ⟨_, rfl, st, la, ca, n', 3, rfl, S4, by omega, by decide, by decide, fun r H5 r0 r1 sd5 S5 => ?_⟩
      have g5 := g4.trans (Gs.drew g4.tb S4 sd5)
      have rf5 : Rep K H5 fv (dTs ts) := (Gs.drew g4.tb S4 sd5).it S4 rf4 (it_trms (k := 0) ts)
      refine ⟨_, _, rfl, rfl, _, rfl, ?_⟩
      by_cases c : r > 0
      · refine ifY (decide_eq_true c) ?_
        refine ⟨_, rfl, _, rfl, by omega, by omega, fun D hD => ?_⟩
        have dst : D ≠ st := fun z => by rw [z, S5.atS] at hD; cases hD
        have dla : D ≠ la := fun z => by
          obtain ⟨ys, hy⟩ := S5.atL
          rw [z, hy] at hD
          cases hD
        refine lc_range (lo := 0) (n := ((sz : Nat) : Int).toNat) (fun k H6 => ∃ (ws : List Int) (m : Nat), ws.length = k ∧ (∀ x ∈ ws, x.natAbs ≤ 3 * 10 ^ 20) ∧ m = n' + 1 + k ∧ StH st la ca m H6 ∧ Gs T st la H5 H6 ∧ H6 D = some (.lst (ws.map V.int))) ?_ ?_ ?_
        · exact ⟨[], _, rfl, (fun x hx => by cases hx), rfl, S5.ext (ext_new hD), (Gs.refl g5.tb).new hD, upd_same⟩
        · rintro k H6 hk ⟨ws, m, hl, hb, rfl, S6, g6, h6⟩
          refine ⟨rfl, yes ?_⟩
          rw [if_pos rfl]
          refine ⟨_, rfl, st, la, ca, _, 7, rfl, S6, by omega, by decide, by decide, fun r2 H7 r20 r21 sd7 S7 => ?_⟩
          have h7 : H7 D = some (.lst (ws.map V.int)) := by rw [sd7 D dst dla]; exact h6
          refine ⟨_, _, rfl, rfl, _, rfl, _, _, rfl, rfl, .inl ⟨by omega, by omega⟩, _, h7, by rw [sizeLine_eq, List.length_map]; omega, ws ++ [(r2 - 3) * wd], _, by simp [hl], fun x hx => ?_, rfl, StH.mut S5 S7 hD, (g6.trans (Gs.drew g6.tb S6 sd7)).wrote hD h7, ?_⟩
          · rcases List.mem_append.mp hx with z | z
            · exact hb x z
            · rw [List.mem_singleton.mp z]
              exact mul_small r20 r21 w0 w1
          · rw [upd_same, List.map_append]
            rfl
        · rintro H6 ⟨ws, m, hl, hb, rfl, S6, g6, h6⟩
          have hl' : ws.length = sz := by omega
          refine ⟨D, _, rfl, .inl ⟨SqL.of h6, fun U2 hU2 => ?_⟩⟩
          have gu := (Gq.refl g6.tb).new (o := .tup (ws.map V.int)) hU2
          have rf6 : Rep K H6 fv (dTs ts) := g6.it S5 rf5 (it_trms (k := 0) ts)
          obtain ⟨fa, fxs, rfl, ft, fr⟩ := repTs (gu.rep rf6)
          have fl := fr.length
          rw [List.length_map] at fl
          refine ⟨_, rfl, _, rfl, _, rfl, by show 2 ≤ sizeLine; decide, fun U3 hU3 => ⟨by show 1 ≤ sizeLine; decide, fun U4 hU4 => ?_⟩⟩
          have gu3 := gu.new (o := .tup [.int (i : Nat), .ref U2]) hU3
          have gu4 := gu3.new (o := .tup [.ref U3]) hU4
          have x23 : (upd (upd (upd H6 U2 (.tup (ws.map V.int))) U3 (.tup [.int (i : Nat), .ref U2])) U4 (.tup [.ref U3])) U3 = some (.tup [.int (i : Nat), .ref U2]) := by
            rw [upd_ne (fun z => by rw [← z, upd_same] at hU4; cases hU4), upd_same]
          have x2 : (upd (upd (upd H6 U2 (.tup (ws.map V.int))) U3 (.tup [.int (i : Nat), .ref U2])) U4 (.tup [.ref U3])) U2 = some (.tup (ws.map V.int)) := by
            have k3 : U2 ≠ U3 := fun z => by rw [← z, upd_same] at hU3; cases hU3
            have k4 : U2 ≠ U4 := fun z => by rw [← z, upd_ne k3, upd_same] at hU4; cases hU4
            rw [upd_ne k4, upd_ne k3, upd_same]
          have rt : Rep K (upd (upd (upd H6 U2 (.tup (ws.map V.int))) U3 (.tup [.int (i : Nat), .ref U2])) U4 (.tup [.ref U3])) (.ref U3) (dTm (i, ws)) := .tup (.inl (.inl x23)) (.cons (.int _) (.cons (.tup (.inl (.inl x2)) (RepAll.ints ws)) .nil))
          have more : ∀ {H7 : Hp} {v : V}, Gq T H6 H7 → Rep K H7 v (dTs (ts ++ [(i, ws)])) → ∃ (ts : List Trm) (n' : Nat) (fv : V) (s4 s5 s6 : Option V), TmOk ss 0 ts ∧ (∀ t ∈ ts, t.1 < i + 1) ∧ BigOk (3 * 10 ^ 20) ts ∧ n' ≤ n + 1 + 5 * (i + 1) ∧ ts.length ≤ i + 1 ∧
              StH st la ca n' H7 ∧ Gs T st la H H7 ∧ Rep K H7 fv (dTs ts) ∧ [some (V.ref st), some (V.ref xa), some v, some (V.int wd), some (V.int (i : Nat)), some (V.int (sz : Nat)), some (V.ref U2), none] = [some (.ref st), some (.ref xa), some fv, some (.int wd), s4, s5, s6, none] := by
            intro H7 v gq rv
            refine ⟨ts ++ [(i, ws)], n' + 1 + ((sz : Nat) : Int).toNat, v, _, _, _, tm_snoc hsz hl' z1 tk lt (Nat.zero_le _), fun t ht => ?_, fun t ht => ?_, by omega, by simp; omega, S6.ext gq.ext, (g5.trans g6).grow gq, rv, rfl⟩
            · rcases List.mem_append.mp ht with z | z
              · have := lt t z
                omega
              · rw [List.mem_singleton.mp z]
                exact Nat.lt_succ_self _
            · rcases List.mem_append.mp ht with z | z
              · exact bg t z
              · rw [List.mem_singleton.mp z]
                exact hb
          have frG : RepAll K (upd (upd (upd H6 U2 (.tup (ws.map V.int))) U3 (.tup [.int (i : Nat), .ref U2])) U4 (.tup [.ref U3])) fxs (ts.map dTm) := fr.ext (((Gq.refl gu.tb).new (o := .tup [.int (i : Nat), .ref U2]) hU3).new (o := .tup [.ref U3]) hU4).ext
          refine ⟨fa, U4, fxs, [.ref U3], rfl, rfl, sqt_ext (((Gq.refl gu.tb).new (o := .tup [.int (i : Nat), .ref U2]) hU3).new (o := .tup [.ref U3]) hU4).ext ft, .inl (.inl upd_same), by rw [sizeLine_eq]; simp; omega, fun ef => ?_, (fun _ z => by cases z), fun ef _ p hp => ?_⟩
          · subst ef
            have et : ts = [] := List.eq_nil_of_length_eq_zero (by simpa using fl.symm)
            subst et
            exact more gu4 (.tup (.inl (.inl upd_same)) (.cons rt .nil))
          · have gu5 := gu4.new (o := .tup (fxs ++ [.ref U3])) hp
            refine more gu5 ?_
            have e5 : (ts ++ [(i, ws)]).map dTm = ts.map dTm ++ [dTm (i, ws)] := by simp
            show Rep K _ _ (.tuple ((ts ++ [(i, ws)]).map dTm))
            rw [e5]
            exact .tup (.inl (.inl upd_same)) ((frG.ext (ext_new hp)).append (.cons (rt.ext (ext_new hp)) .nil))
      · refine ifN (decide_eq_false c) ?_
        exact ⟨ts, _, fv, _, _, _, tk, (fun t ht => by have := lt t ht; omega), bg, by omega, by omega, S5, g5, rf5, rfl⟩
    · rintro σ H' ⟨ts, n', fv, s4, s5, s6, tk, lt, bg, hn', tl, SH, g, rf, rfl⟩
      rw [List.length_map] at hn'
      exact ⟨_, rfl, q fv ts n' H' tk bg (by omega) g SH rf⟩
end
end K2
set_option Elab.async false
set_option linter.all false
set_option maxRecDepth 100000
set_option maxHeartbeats 4000000
/-! R5: all rows; what a row weighs. -/
namespace K2
open PySem PySem.Spec PyProof.Rows L2 BK LamX
def ext1 (s : Nat) (r : List Nat) : List (List Nat) := (List.range s).map fun v => r ++ [v]
theorem rows_take {ss : List Nat} {i s : Nat} (h : ss[i]? = some s) : rowsOf (ss.take (i + 1)) = (rowsOf (ss.take i)).flatMap (ext1 s) := by
  rw [take_snoc h, rowsOf_snoc]
  rfl
theorem nat_all {K : PySem.W.Frag} {H : Hp} : ∀ r : List Nat, RepAll K H (r.map fun s => V.int (s : Nat)) (r.map fun s => .int (s : Nat))
  | [] => .nil
  | s :: r => .cons (.int _) (nat_all r)
theorem rep_row {K : PySem.W.Frag} {H : Hp} {p : Addr} {r : List Nat} (h : H p = some (.tup (r.map fun s => V.int (s : Nat)))) : Rep K H (.ref p) (dN r) := .tup (.inl (.inl h)) (nat_all r)
theorem rowsRep {K : PySem.W.Frag} {H : Hp} {xs : List V} {rs : List (List Nat)} {i : Nat} {x : V} (h : RepAll K H xs (rs.map dN)) (e : xs[i]? = some x) : ∃ r, rs[i]? = some r ∧ Rep K H x (dN r) := by
  obtain ⟨d, h1, h2⟩ := BK.rep_at h e
  rw [List.getElem?_map] at h1
  cases q : rs[i]? with
  | none => rw [q] at h1; cases h1
  | some r =>
    rw [q] at h1
    cases h1
    exact ⟨r, rfl, h2⟩
theorem it_rows {rs : List (List Nat)} : ∀ d ∈ rs.map dN, ∃ k, IT k d := fun d hd => by
  obtain ⟨r, _, rfl⟩ := List.mem_map.mp hd
  exact ⟨1, it_nats r⟩
theorem len_flat {s : Nat} : ∀ {l : List (List Nat)}, (l.flatMap (ext1 s)).length = l.length * s
  | [] => by simp
  | x :: l => by
    rw [List.flatMap_cons, List.length_append, len_flat]
    simp [ext1, Nat.add_mul, Nat.add_comm]
def spRows (K : PySem.W.Frag) : Sp := fun vs H Q _ => ∃ (x : V) (ss : List Nat), vs = [x] ∧ Rep K H x (dN ss) ∧ SmallSz ss ∧ ∀ l fs H', Same H H' → H' l = some (.lst fs) → RepAll K H' fs ((rowsOf ss).map dN) → Q (.ref l) H'
def spWeight (K : PySem.W.Frag) : Sp := fun vs H Q _ => ∃ (x y : V) (ss : List Nat) (ts : List Trm) (r : List Nat), vs = [x, y] ∧ Rep K H x (dTs ts) ∧ Rep K H y (dN r) ∧ TmOk ss 0 ts ∧ ts.length ≤ 1000 ∧ RowOk ss r ∧ ∀ H', Same H H' → Q (.int (wt r ts)) H'
theorem same_mut {H0 H : Hp} {p : Addr} {o : HO} (e : Same H0 H) (h : H0 p = none) : Same H0 (upd H p o) := fun b u x => by
  rw [upd_ne (ne_of_none x h)]
  exact e b u x
section
variable {P : Program} {w : World} {K : PySem.W.Frag} {mg : Str → Option Value} {base : Heap} {T : List (Addr × Str)}
theorem op_catK {X : Cx} (hK : X.K = K) : OpR X (binaryOp .Add) (rCatA K) := hK ▸ op_catA
theorem scRows : FnScope ["sizes_so", "found", "size", "more", "row_so", "worth"] ["sizes_so"] (defScope sRows) := ⟨rfl, rfl, rfl, by decide +kernel, rfl, by decide +kernel, by decide +kernel⟩
theorem def_rows (B : Bl mg) (F : At K mg "_law_rows" sRows ["sizes_so"]) : Def P w K mg base CX0 1 "_law_rows" ["sizes_so"] (spRows K) := by
  refine F.ok scRows (fun vs H Q E h => ?_) (fun f cdv A outer s H vs Q E hr h => ?_)
  · obtain ⟨x, ss, rfl, _⟩ := h
    rfl
  · obtain ⟨x, ss, rfl, hx, sm, q⟩ := h
    refine ⟨_, pss_cons (ps_set (i := 1) scRows.nd rfl (Or.inl rfl) (pe_lst (pa_cons (pe_tup pa_nil) pa_nil)))
      (pss_cons (ps_for PassesOwn.never rfl (pi_tup (pv 0)) (pg_name (i := 2) scRows.nd rfl (Or.inl rfl))
        (pss_cons (ps_set (i := 3) scRows.nd rfl (Or.inl rfl) (pe_lst pa_nil))
        (pss_cons (ps_for PassesOwn.never rfl (pi_list (pv 1)) (pg_name (i := 4) scRows.nd rfl (Or.inr rfl))
          (pss_one (ps_set (i := 3) scRows.nd rfl (Or.inl rfl) (pe_op op_cat (pv 3) (pe_lc (own := [("worth", 5)]) (g := gName 5) (tt := tYes) rfl scRows.nd (pi_range1 (by rfl) B.rng (pa_cons (pv 2) pa_nil))
            (blkOk_by (N := ["sizes_so", "found", "size", "more", "row_so", "worth"]) (sc := defScope sRows) (by decide +kernel)) (fun _ _ _ _ _ => pg_name (i := 5) scRows.nd rfl (Or.inl rfl)) (fun _ _ _ _ _ => pts_nil)
            (fun _ _ _ _ _ => pe_op (op_catK (K := K) rfl) (pv 4) (pe_tup (pa_cons (pv 5) pa_nil))))))))
        (pss_one (ps_set (i := 1) scRows.nd rfl (Or.inl rfl) (pe_callTy call_list_of (by rfl) B.lst sList (pa_cons (pv 3) pa_nil)))))))
      (pss_one (ps_ret (pv 1)))), ?_⟩
    obtain ⟨xa, rfl, hs⟩ := repN hx
    have s4 : ∀ s ∈ ss, s ≤ 4 := fun s h => (sm.all s h).2
    have rl : ∀ i, i ≤ ss.length → (rowsOf (ss.take i)).length ≤ 256 := fun i hi => by
      have h1 := rows_len s4 i hi
      have h2 := sm.len
      have h3 : 4 ^ i ≤ 4 ^ 4 := Nat.pow_le_pow_right (by decide) (by omega)
      omega
    refine ⟨by show 0 ≤ sizeLine; decide, fun e0 he0 => ⟨by show 1 ≤ sizeLine; decide, fun e1 he1 => ?_⟩⟩
    have k0 : Same H (upd (upd H e0 (.tup [])) e1 (.lst [.ref e0])) := same_new (same_new (Same.refl H) he0) he1
    refine ⟨_, rfl, xa, rfl, ⟨_, sqt_same k0 hs⟩, for_tup (K := K) (a := xa) (xs := ss.map fun s => V.int (s : Nat)) (fun i σ H' => ∃ (l : Addr) (fs : List V) (s2 s3 s4 : Option V), Same H H' ∧ H' l = some (.lst fs) ∧ RepAll K H' fs ((rowsOf (ss.take i)).map dN) ∧
      σ = [some (.ref xa), some (.ref l), s2, s3, s4, none]) ?_ ?_ ?_ ?_⟩
    · refine ⟨e1, _, none, none, none, k0, upd_same, .cons (rep_row (r := []) ?_) .nil, rfl⟩
      rw [upd_ne (fun z => by rw [← z, upd_same] at he1; cases he1), upd_same]
      rfl
    · rintro i σ H' _ ⟨_, _, _, _, _, k, _⟩
      exact sqt_same k hs
    · rintro i x σ H' hi ⟨l, fs, s2, s3, s4', k, hl, rf, rfl⟩
      obtain ⟨sz, hsz, rfl⟩ := nat_at hi
      have il : i < ss.length := (List.getElem?_eq_some_iff.mp hsz).1
      obtain ⟨z1, z4⟩ := sm.all sz (List.mem_of_getElem? hsz)
      have fl := rf.length
      rw [List.length_map] at fl
      have fl2 := rl i (by omega)
      refine ⟨Nat.zero_le _, fun m0 hm0 => ?_⟩
      have k1 : Same H' (upd H' m0 (.lst [])) := same_new (Same.refl H') hm0
      refine ⟨_, rfl, l, rfl, ⟨_, SqL.of (k1 _ _ hl)⟩, for_list (K := K) (a := l) (xs := fs) (fun j σ H2 => ∃ (m : Addr) (ms : List V) (s4 : Option V), Same H' H2 ∧ H2 m = some (.lst ms) ∧ RepAll K H2 ms ((((rowsOf (ss.take i)).take j).flatMap (ext1 sz)).map dN) ∧
        σ = [some (.ref xa), some (.ref l), some (.int (sz : Nat)), some (.ref m), s4, none]) ?_ ?_ ?_ ?_⟩
      · exact ⟨m0, [], s4', k1, upd_same, .nil, rfl⟩
      · rintro j σ H2 _ ⟨_, _, _, k2, _⟩
        exact SqL.of (k2 _ _ hl)
      · rintro j x σ H2 hj ⟨m, ms, s4, k2, hm, rm, rfl⟩
        obtain ⟨r, er, rr⟩ := rowsRep rf hj
        have rr2 := rr.same k2
        obtain ⟨ra, rfl, hra⟩ := repN rr2
        have jl : j < (rowsOf (ss.take i)).length := (List.getElem?_eq_some_iff.mp er).1
        have rlen : r.length ≤ 4 := by
          have h1 := (mem_rows ss i r (by omega)).mp (List.mem_of_getElem? er)
          have h2 := h1.1
          rw [List.length_take] at h2
          have h3 := sm.len
          omega
        have ml : ms.length ≤ 1024 := by
          have h1 := rm.length
          rw [List.length_map, len_flat] at h1
          have h2 : ((rowsOf (ss.take i)).take j).length ≤ 256 := by rw [List.length_take]; omega
          have := Nat.mul_le_mul h2 z4
          omega
        refine ⟨_, rfl, _, rfl, _, rfl, by omega, by omega, fun D hD => ?_⟩
        refine lc_range (lo := 0) (n := ((sz : Nat) : Int).toNat) (fun k H3 => ∃ ys : List V, Same H2 H3 ∧ H3 D = some (.lst ys) ∧ RepAll K H3 ys (((List.range k).map fun v => r ++ [v]).map dN)) ?_ ?_ ?_
        · exact ⟨[], same_new (Same.refl H2) hD, upd_same, .nil⟩
        · rintro k H3 hk ⟨ys, k3, h3, ry⟩
          have yl := ry.length
          rw [List.length_map, List.length_map, List.length_range] at yl
          refine ⟨rfl, yes ?_⟩
          rw [if_pos rfl]
          refine ⟨_, rfl, _, rfl, by show 1 ≤ sizeLine; decide, fun U hU => ?_⟩
          have k4 := same_new (o := .tup [.int (0 + (k : Nat))]) (Same.refl H3) hU
          have e0k : (0 + ((k : Nat) : Int)) = ((k : Nat) : Int) := by omega
          have more : ∀ {H4 : Hp} {p : Addr}, Same H3 H4 → H4 p = some (.tup ((r ++ [k]).map fun s => V.int (s : Nat))) → ∃ acc, H4 D = some (.lst acc) ∧ acc.length < sizeLine ∧ ∃ ys : List V, Same H2 (upd H4 D (.lst (acc ++ [.ref p]))) ∧ (upd H4 D (.lst (acc ++ [.ref p]))) D = some (.lst ys) ∧ RepAll K (upd H4 D (.lst (acc ++ [.ref p]))) ys (((List.range (k + 1)).map fun v => r ++ [v]).map dN) := by
            intro H4 p k5 hp
            have h4 := k5 _ _ h3
            refine ⟨ys, h4, by rw [sizeLine_eq]; omega, _, same_mut (k3.trans k5) hD, upd_same, ?_⟩
            have er2 : (((List.range (k + 1)).map fun v => r ++ [v]).map dN) = (((List.range k).map fun v => r ++ [v]).map dN) ++ [dN (r ++ [k])] := by
              rw [List.range_succ]
              simp
            rw [er2]
            refine rep_wrote h4 ((ry.same k5).append (.cons (rep_row hp) .nil)) fun d hd => ?_
            rcases List.mem_append.mp hd with z | z
            · exact it_rows d z
            · rw [List.mem_singleton.mp z]
              exact ⟨1, it_nats _⟩
          refine ⟨ra, U, _, _, rfl, rfl, sqt_same (k3.trans k4) hra, .inl (.inl upd_same), by rw [sizeLine_eq]; simp; omega, fun ez => ?_, (fun _ z => by cases z), fun ez _ p hp => ?_⟩
          · have : r = [] := by simpa using ez
            subst this
            refine more k4 ?_
            rw [upd_same, e0k]
            rfl
          · refine more (same_new k4 hp) ?_
            rw [upd_same, List.map_append, e0k]
            rfl
        · rintro H3 ⟨ys, k3, h3, ry⟩
          have yl := ry.length
          rw [List.length_map, List.length_map, List.length_range] at yl
          have eN : ((sz : Nat) : Int).toNat = sz := by omega
          rw [eN] at ry yl
          refine ⟨m, D, ms, ys, rfl, rfl, k3 _ _ hm, h3, by rw [sizeLine_eq]; omega, fun p hp => ?_⟩
          have k4 := same_new (o := .lst (ms ++ ys)) k3 hp
          refine ⟨p, _, _, k2.trans k4, upd_same, ?_, rfl⟩
          have ef : ((((rowsOf (ss.take i)).take (j + 1)).flatMap (ext1 sz)).map dN) = ((((rowsOf (ss.take i)).take j).flatMap (ext1 sz)).map dN) ++ (((List.range sz).map fun v => r ++ [v]).map dN) := by
            rw [take_snoc er, List.flatMap_append, List.map_append]
            simp [ext1]
          rw [ef]
          exact ((rm.same k4).append (ry.same (same_new (Same.refl H3) hp)))
      · rintro σ H2 ⟨m, ms, s4, k2, hm, rm, rfl⟩
        rw [fl, List.take_length, ← rows_take hsz] at rm
        have ml := rm.length
        rw [List.length_map] at ml
        have := rl (i + 1) (by omega)
        refine ⟨_, rfl, m, _, rfl, .inl (SqL.of hm), fun p hp => ?_⟩
        have k3 := same_new (o := .lst ms) (Same.refl H2) hp
        exact ⟨p, ms, _, _, _, (k.trans k2).trans k3, upd_same, rm.same k3, rfl⟩
    · rintro σ H' ⟨l, fs, s2, s3, s4', k, hl, rf, rfl⟩
      rw [List.length_map, List.take_length] at rf
      exact ⟨_, rfl, q l fs H' k hl rf⟩
theorem scWeight : FnScope ["some", "row_so", "spot", "weights_so"] ["some", "row_so"] (defScope sWeight) := ⟨rfl, rfl, rfl, by decide +kernel, rfl, by decide +kernel, by decide +kernel⟩
theorem def_weight (B : Bl mg) (F : At K mg "_law_weight" sWeight ["some", "row_so"]) : Def P w K mg base CX0 1 "_law_weight" ["some", "row_so"] (spWeight K) := by
  refine F.ok scWeight (fun vs H Q E h => ?_) (fun f cdv A outer s H vs Q E hr h => ?_)
  · obtain ⟨x, y, ss, ts, r, rfl, _⟩ := h
    rfl
  · obtain ⟨x, y, ss, ts, r, rfl, hx, hy, ok, tl, ro, q⟩ := h
    refine ⟨_, pss_one (ps_ret (pe_callB (cr_sum rfl) (by rfl) B.sum sSumB (pa_cons (pe_lc (own := [("spot", 2), ("weights_so", 3)]) (g := gTup K 2 (gCons (gName 2) (gCons (gName 3) gNil))) (tt := tYes) rfl scWeight.nd (pi_tup (pv 0))
        (blkOk_by (N := ["some", "row_so", "spot", "weights_so"]) (sc := defScope sWeight) (by decide +kernel)) (fun _ _ _ _ _ => pg_tup rfl (pgs_cons (pg_name (i := 2) scWeight.nd rfl (Or.inl rfl) (.inr rfl)) (pgs_cons (pg_name (i := 3) scWeight.nd rfl (Or.inl rfl) (.inr rfl)) pgs_nil))) (fun _ _ _ _ _ => pts_nil)
        (fun _ _ _ _ _ => pe_ix (ix_tupK (K := K) rfl) (pv 3) (pe_ix (ix_tupK (K := K) rfl) (pv 1) (pv 2) (fun _ _ => rfl)) (fun _ _ => rfl))) pa_nil))), ?_⟩
    obtain ⟨b, xs, rfl, hb, ra⟩ := repTs hx
    obtain ⟨ya, rfl, hrw⟩ := repN hy
    have hl := ra.length
    rw [List.length_map] at hl
    refine ⟨_, rfl, b, rfl, ⟨_, hb⟩, fun D hD => ?_⟩
    refine lc_tup (K := K) (a := b) (xs := xs) (fun k H2 => Same H H2 ∧ H2 D = some (.lst (((ts.take k).map fun t => t.2.getD (r.getD t.1 0) 0).map V.int))) ?_ ?_ ?_ ?_
    · exact ⟨same_new (Same.refl H) hD, upd_same⟩
    · rintro k H2 _ ⟨s2, _⟩
      exact sqt_same s2 hb
    · rintro k x H2 hk ⟨s2, h2⟩
      obtain ⟨t, et, rt⟩ := tm_at ra hk
      have kl : k < ts.length := (List.getElem?_eq_some_iff.mp et).1
      obtain ⟨ta, wv, rfl, st, rw_⟩ := repTm (rt.same s2)
      obtain ⟨wa, rfl, hw⟩ := repW rw_
      obtain ⟨_, n, z1, z2, z3⟩ := ok.lt (List.mem_of_getElem? et)
      obtain ⟨v, v1, v2, v3⟩ := row_at ro z1
      have lv : v < t.2.length := by omega
      refine ⟨ta, _, rfl, st, rfl, _, _, rfl, _, _, rfl, rfl, rfl, yes ?_⟩
      rw [if_pos rfl]
      refine ⟨_, rfl, _, rfl, _, rfl, ya, _, _, _, rfl, rfl, sqt_same s2 hrw, atI_nat (by rw [List.getElem?_map, v1]; rfl), wa, _, _, .int (t.2.getD v 0), rfl, rfl, hw, atI_nat ?_, ?_⟩
      · rw [List.getElem?_map, List.getElem?_eq_getElem lv, List.getD_eq_getElem?_getD, List.getElem?_eq_getElem lv]
        rfl
      · refine ⟨_, h2, by rw [sizeLine_eq]; simp; omega, same_mut s2 hD, ?_⟩
        rw [upd_same, take_snoc et, List.map_append, List.map_append]
        show _ = some (HO.lst (_ ++ [V.int (t.2.getD (r.getD t.1 0) 0)]))
        rw [v2]
    · rintro H2 ⟨s2, h2⟩
      rw [hl, List.take_length] at h2
      exact ⟨D, _, rfl, SqL.of h2, q H2 s2⟩
end
end K2
set_option Elab.async false
set_option linter.all false
set_option maxRecDepth 100000
set_option maxHeartbeats 4000000
/-! R6: the law's own form; bounds; weights moved. -/
namespace K2
open PySem PySem.Spec PyProof.Rows L2 BK LamX
section
variable {P : Program} {w : World} {K : PySem.W.Frag} {mg : Str → Option Value} {base : Heap} {T : List (Addr × Str)}
theorem scLForm : FnScope ["some", "low", "found", "left", "spot", "weights_so", "least", "worth"] ["some", "low"] (defScope sLForm) := ⟨rfl, rfl, rfl, by decide +kernel, rfl, by decide +kernel, by decide +kernel⟩
theorem def_lform (B : Bl mg) (F : At K mg "_law_form" sLForm ["some", "low"]) : Def P w K mg base CX0 1 "_law_form" ["some", "low"] (spForm K T) := by
  refine F.ok scLForm (fun vs H Q E h => ?_) (fun f cdv A outer s H vs Q E hr h => ?_)
  · obtain ⟨x, ss, ts, b, rfl, _⟩ := h
    rfl
  · obtain ⟨x, ss, ts, b, rfl, hx, so, ok, tb, q⟩ := h
    refine ⟨_, pss_cons (ps_par (i := 2) (j := 3) (by rfl) scLForm.nd rfl rfl (by decide) rfl rfl (pa_cons (pe_lst pa_nil) (pa_cons (pv 1) pa_nil)) (by rfl))
      (pss_cons (ps_for PassesOwn.never rfl (pi_tup (pv 0)) (pg_tup rfl (pgs_cons (pg_name (i := 4) scLForm.nd rfl (Or.inl rfl)) (pgs_cons (pg_name (i := 5) scLForm.nd rfl (Or.inl rfl)) pgs_nil)))
        (pss_cons (ps_set (i := 6) scLForm.nd rfl (Or.inr rfl) (pe_callB (call_minT rfl) (by rfl) B.min sMin (pa_cons (pv 5) pa_nil)))
        (pss_cons (ps_set (i := 3) scLForm.nd rfl (Or.inl rfl) (pe_op op_sub (pv 3) (pv 6)))
        (pss_one (ps_if (pt_cmpR op_gt (pe_callB (call_maxT rfl) (by rfl) B.max sMax (pa_cons (pv 5) pa_nil)) (pv 6) (nomark _))
          (pss_one (ps_expr (pe_bm PySem.F.plainAttrs_list PySem.F.slot_list_append PySem.F.type_list_append mt_append (pv 2)
            (pa_cons (pe_tup (pa_cons (pv 4) (pa_cons (pe_callTy call_tuple_of (by rfl) B.tup sTup (pa_cons (pe_lc (own := [("worth", 7)]) (g := gName 7) (tt := tYes) rfl scLForm.nd (pi_tup (pv 5))
                (blkOk_by (N := ["some", "low", "found", "left", "spot", "weights_so", "least", "worth"]) (sc := defScope sLForm) (by decide +kernel)) (fun _ _ _ _ _ => pg_name (i := 7) scLForm.nd rfl (Or.inl rfl)) (fun _ _ _ _ _ => pts_nil)
                (fun _ _ _ _ _ => pe_op op_sub (pv 7) (pv 6))) pa_nil)) pa_nil))) pa_nil)))) pss_nil)))))
      (pss_one (ps_ret (pe_ifExp (pt_cmpR op_le (pv 3) pe_int (nomark _)) (pe_tup (pa_cons (pe_tup pa_nil) (pa_cons pe_int pa_nil)))
        (pe_tup (pa_cons (pe_callTy call_tuple_of (by rfl) B.tup sTup (pa_cons (pv 2) pa_nil)) (pa_cons (pv 3) pa_nil))))))), ?_⟩
    obtain ⟨a, xs, rfl, ht, ra⟩ := repTs hx
    have hl := ra.length
    rw [List.length_map] at hl
    have lts := len_tm ok (Nat.zero_le _)
    have sl := so.len
    refine ⟨Nat.zero_le _, fun l hl0 => ?_⟩
    have g0 := (Gq.refl tb).new (o := .lst []) hl0
    refine ⟨_, rfl, _, _, rfl, ?_⟩
    refine ⟨_, rfl, a, rfl, ⟨_, sqt_ext g0.ext ht⟩, for_tup (K := K) (a := a) (xs := xs) (fun i σ H' => ∃ (s3 s4 s5 : Option V) (ys : List V), Gq T H H' ∧ H' l = some (.lst ys) ∧ RepAll K H' ys ((formK (ts.take i)).map dTm) ∧
      σ = [some (.ref a), some (.int b), some (.ref l), some (.int (b - mnS (ts.take i))), s3, s4, s5, none]) ?_ ?_ ?_ ?_⟩
    · exact ⟨none, none, none, [], g0, upd_same, .nil, by simp [mnS]; rfl⟩
    · rintro i σ H' _ ⟨_, _, _, _, g, _⟩
      exact sqt_ext g.ext ht
    · rintro i x σ H' hi ⟨s3, s4, s5, ys, g, h1, r1, rfl⟩
      obtain ⟨t, et, rt⟩ := tm_at ra hi
      obtain ⟨ta, wv, rfl, st, rw_⟩ := repTm (g.rep rt)
      obtain ⟨wa, rfl, hw⟩ := repW rw_
      obtain ⟨_, n, z1, z2, z3⟩ := ok.lt (List.mem_of_getElem? et)
      have ne := ne_of_len z2 z3
      have n2 := (so.all n (List.mem_of_getElem? z1)).2
      have il : i < ts.length := (List.getElem?_eq_some_iff.mp et).1
      have ly : ys.length ≤ 100 := by
        have e1 := r1.length
        rw [List.length_map] at e1
        have e2 := len_formK (ts.take i)
        rw [List.length_take] at e2
        omega
      have eb : b - mnS (ts.take i) - mnL t.2 = b - mnS (ts.take (i + 1)) := by rw [take_snoc et, mnS_snoc]; omega
      refine ⟨ta, _, rfl, st, rfl, _, _, rfl, _, _, rfl, rfl, ?_⟩
      refine ⟨_, rfl, wa, t.2, rfl, hw, ne, ?_⟩
      refine ⟨_, rfl, _, rfl, _, _, rfl, rfl, ?_⟩
      refine ⟨_, rfl, wa, t.2, rfl, hw, ne, _, rfl, _, _, rfl, rfl, _, rfl, ?_⟩
      by_cases gt : mxL t.2 > mnL t.2
      · refine ifY (decide_eq_true gt) ?_
        refine ⟨_, rfl, .inl ⟨rfl, _, SqL.of h1⟩, ?_⟩
        refine ⟨_, rfl, _, rfl, wa, rfl, ⟨_, hw⟩, fun D hD => ?_⟩
        refine lc_tup (K := K) (a := wa) (xs := t.2.map V.int) (fun k H2 => (∀ b o, H' b = some o → H2 b = some o) ∧ H2 D = some (.lst (((t.2.take k).map (· - mnL t.2)).map V.int))) ?_ ?_ ?_ ?_
        · exact ⟨fun c o e => by rw [upd_ne (ne_of_none e hD)]; exact e, upd_same⟩
        · rintro k H2 hk ⟨s2, h2⟩
          exact sqt_same s2 hw
        · rintro k x H2 hk ⟨s2, h2⟩
          obtain ⟨v, hv, rfl⟩ := int_at hk
          have kl : k < t.2.length := (List.getElem?_eq_some_iff.mp hv).1
          refine ⟨rfl, yes ?_⟩
          rw [if_pos rfl]
          refine ⟨_, rfl, _, rfl, _, _, rfl, rfl, _, h2, by rw [sizeLine_eq]; simp; omega, fun c o e => by rw [upd_ne (ne_of_none e hD)]; exact s2 c o e, ?_⟩
          rw [upd_same, take_snoc hv, List.map_append, List.map_append]
          rfl
        · rintro H2 ⟨s2, h2⟩
          rw [List.length_map, List.take_length] at h2
          have gD : Gq T H' H2 := ⟨fun b o e _ => s2 b o e, g.tb.ext s2⟩
          refine ⟨D, _, rfl, .inl ⟨SqL.of h2, fun U hU => ⟨by show 2 ≤ sizeLine; decide, fun p hp => ?_⟩⟩⟩
          have gg := (gD.new (o := .tup ((t.2.map (· - mnL t.2)).map V.int)) hU).new (o := .tup [.int (t.1 : Nat), .ref U]) hp
          have h2l := gg.ext l _ h1 (fun ps z => by cases z)
          refine ⟨l, ys, _, rfl, rfl, h2l, by rw [sizeLine_eq]; omega, _, _, _, _, (g.trans gg).wrote hl0 h2l, upd_same, ?_, by rw [← eb]; rfl⟩
          have ef : (formK (ts.take (i + 1))).map dTm = (formK (ts.take i)).map dTm ++ [dTm (t.1, t.2.map (· - mnL t.2))] := by
            rw [take_snoc et, formK_snoc]
            unfold keep1
            rw [if_pos gt]
            simp
          rw [ef]
          refine rep_wrote h2l (wkeep (r1.ext gg.ext) (.tup (.inl (.inl upd_same)) (.cons (.int _) (.cons (.tup (.inl (.inl ?_)) (RepAll.ints _)) .nil)))) fun d hd => ⟨2, it_trms' d hd⟩
          rw [upd_ne (fun e => by rw [e] at hU; rw [e, upd_same] at hp; cases hp), upd_same]
      · refine ifN (decide_eq_false gt) ?_
        refine ⟨_, _, _, ys, g, h1, ?_, by rw [← eb]; rfl⟩
        have ef : formK (ts.take (i + 1)) = formK (ts.take i) := by
          rw [take_snoc et, formK_snoc]
          unfold keep1
          rw [if_neg gt]
          simp
        rw [ef]
        exact r1
    · rintro σ H' ⟨s3, s4, s5, ys, g, h1, r1, rfl⟩
      rw [hl, List.take_length] at r1 ⊢
      refine ⟨_, rfl, _, _, rfl, rfl, _, rfl, ?_⟩
      by_cases gt : b - mnS ts > 0
      · refine ifN (decide_eq_false (by omega)) ?_
        refine ⟨_, rfl, l, _, rfl, .inl ⟨SqL.of h1, fun U hU => ⟨_, rfl, by show 2 ≤ sizeLine; decide, fun p hp => ?_⟩⟩⟩
        have gg := ((Gq.refl g.tb).new (o := .tup ys) hU).new (o := .tup [.ref U, .int (b - mnS ts)]) hp
        refine q _ _ (g.trans gg) ?_
        unfold formOf
        rw [if_pos gt]
        refine .tup (.inl (.inl upd_same)) (.cons (.tup (.inl (.inl ?_)) (r1.ext gg.ext)) (.cons (.int _) .nil))
        rw [upd_ne (fun e => by rw [e] at hU; rw [e, upd_same] at hp; cases hp), upd_same]
      · refine ifY (decide_eq_true (by omega)) ?_
        refine ⟨by show 0 ≤ sizeLine; decide, fun U hU => ⟨by show 2 ≤ sizeLine; decide, fun p hp => ?_⟩⟩
        have gg := ((Gq.refl g.tb).new (o := .tup []) hU).new (o := .tup [.ref U, .int 0]) hp
        refine q _ _ (g.trans gg) ?_
        unfold formOf
        rw [if_neg gt]
        refine .tup (.inl (.inl upd_same)) (.cons (.tup (.inl (.inl ?_)) .nil) (.cons (.int _) .nil))
        rw [upd_ne (fun e => by rw [e] at hU; rw [e, upd_same] at hp; cases hp), upd_same]
end
theorem wt_big {m : Nat} {r : List Nat} : ∀ {ts : List Trm}, BigOk m ts → (wt r ts).natAbs ≤ ts.length * m
  | [], _ => by simp [wt]
  | t :: ts, h => by
    have ih := wt_big (r := r) (ts := ts) fun u hu => h u (List.mem_cons_of_mem _ hu)
    rw [wt_cons]
    have h1 : (t.2.getD (r.getD t.1 0) 0).natAbs ≤ m := by
      rw [List.getD_eq_getElem?_getD]
      cases e : t.2[r.getD t.1 0]? with
      | none => simp
      | some x => exact h t List.mem_cons_self x (List.mem_of_getElem? e)
    rw [List.length_cons, Nat.add_mul]
    omega
def spBound (K : PySem.W.Frag) (T : List (Addr × Str)) : Sp := fun vs H Q _ => ∃ (st la ca : Addr) (n : Nat) (x y : V) (ss : List Nat) (ts : List Trm), vs = [.ref st, x, y] ∧ StH st la ca n H ∧ n ≤ 90000 ∧ Rep K H x (dTs ts) ∧ Rep K H y (dN ss) ∧ SmallSz ss ∧ TmOk ss 0 ts ∧ BigOk (3 * 10 ^ 20) ts ∧ Tabs T H ∧
  ∀ (b : Int) n' H', b.natAbs ≤ 10 ^ 22 → n' ≤ n + 5 → Gs T st la H H' → StH st la ca n' H' → Q (.int b) H'
section
variable {P : Program} {w : World} {K : PySem.W.Frag} {mg : Str → Option Value} {base : Heap} {T : List (Addr × Str)}
theorem scBound : FnScope ["state", "some", "sizes_so", "row_so", "size"] ["state", "some", "sizes_so"] (defScope sBound) := ⟨rfl, rfl, rfl, by decide +kernel, rfl, by decide +kernel, by decide +kernel⟩
theorem def_bound (B : Bl mg) (Dr : Def P w K mg base CX0 2 "_law_draw" ["state", "limit"] spDraw) (We : Def P w K mg base CX0 1 "_law_weight" ["some", "row_so"] (spWeight K)) (F : At K mg "_law_bound" sBound ["state", "some", "sizes_so"]) : Def P w K mg base CX0 3 "_law_bound" ["state", "some", "sizes_so"] (spBound K T) := by
  refine F.ok scBound (fun vs H Q E h => ?_) (fun f cdv A outer s H vs Q E hr h => ?_)
  · obtain ⟨st, la, ca, n, x, y, ss, ts, rfl, _⟩ := h
    rfl
  · obtain ⟨st, la, ca, n, x, y, ss, ts, rfl, S, hn, hx, hy, sm, ok, bg, tb, q⟩ := h
    refine ⟨_, pss_cons (ps_set (i := 3) scBound.nd rfl (Or.inl rfl) (pe_callTy call_tuple_of (by rfl) B.tup sTup (pa_cons (pe_lc (own := [("size", 4)]) (g := gName 4) (tt := tYes) rfl scBound.nd (pi_tup (pv 2))
        (blkOk_by (N := ["state", "some", "sizes_so", "row_so", "size"]) (sc := defScope sBound) (by decide +kernel)) (fun _ _ _ _ _ => pg_name (i := 4) scBound.nd rfl (Or.inl rfl)) (fun _ _ _ _ _ => pts_nil)
        (fun _ _ _ _ _ => pe_def Dr hr (by rfl) pass0 (pa_cons (pv 0) (pa_cons (pv 4) pa_nil)))) pa_nil)))
      (pss_one (ps_ret (pe_op op_sub (pe_op op_add (pe_def We (hr.mono (by decide)) (by rfl) pass0 (pa_cons (pv 1) (pa_cons (pv 3) pa_nil))) (pe_def Dr hr (by rfl) pass0 (pa_cons (pv 0) (pa_cons pe_int pa_nil)))) pe_int))), ?_⟩
    obtain ⟨ya, rfl, hs⟩ := repN hy
    have sl := sm.len
    have tl := len_tm ok (Nat.zero_le _)
    refine ⟨_, rfl, ya, rfl, ⟨_, hs⟩, fun D hD => ?_⟩
    have dst : D ≠ st := fun z => by rw [z, S.atS] at hD; cases hD
    have dla : D ≠ la := fun z => by
      obtain ⟨ys, hy⟩ := S.atL
      rw [z, hy] at hD
      cases hD
    refine lc_tup (K := K) (a := ya) (xs := ss.map fun s => V.int (s : Nat)) (fun k H2 => ∃ r : List Nat, r.length = k ∧ RowOk (ss.take k) r ∧ StH st la ca (n + k) H2 ∧ Gs T st la H H2 ∧ H2 D = some (.lst (r.map fun s => V.int (s : Nat)))) ?_ ?_ ?_ ?_
    · exact ⟨[], rfl, ⟨rfl, fun i v e => by simp at e⟩, S.ext (ext_new hD), (Gs.refl tb).new hD, upd_same⟩
    · rintro k H2 _ ⟨r, _, _, _, g, _⟩
      exact g.tup S hs
    · rintro k x H2 hk ⟨r, rl, ro, S2, g2, h2⟩
      obtain ⟨sz, hsz, rfl⟩ := nat_at hk
      have kl : k < ss.length := (List.getElem?_eq_some_iff.mp hsz).1
      obtain ⟨z1, z4⟩ := sm.all sz (List.mem_of_getElem? hsz)
      refine ⟨rfl, yes ?_⟩
      rw [if_pos rfl]
      refine ⟨_, rfl, _, rfl, st, la, ca, _, _, rfl, S2, by omega, by omega, by omega, fun v H3 v0 v1 sd S3 => ?_⟩
      have h3 : H3 D = some (.lst (r.map fun s => V.int (s : Nat))) := by rw [sd D dst dla]; exact h2
      refine ⟨_, h3, by rw [sizeLine_eq, List.length_map]; omega, r ++ [v.toNat], by simp [rl], ?_, StH.mut S S3 hD, (g2.trans (Gs.drew g2.tb S2 sd)).wrote hD h3, ?_⟩
      · rw [take_snoc hsz]
        refine ⟨by simp [ro.1], fun i u e => ?_⟩
        by_cases hi : i < r.length
        · rw [List.getElem?_append_left hi] at e
          obtain ⟨s, e1, e2⟩ := ro.2 i u e
          exact ⟨s, by rw [List.getElem?_append_left (by rw [← ro.1]; exact hi)]; exact e1, e2⟩
        · have ei : i = r.length := by
            have := (List.getElem?_eq_some_iff.mp e).1
            simp at this
            omega
          subst ei
          rw [List.getElem?_append_right (Nat.le_refl _)] at e
          simp at e
          subst e
          refine ⟨sz, ?_, by omega⟩
          rw [ro.1, List.getElem?_append_right (Nat.le_refl _)]
          simp
      · rw [upd_same, List.map_append]
        have e : ((v.toNat : Nat) : Int) = v := by omega
        show some (HO.lst (_ ++ [V.int v])) = some (HO.lst (_ ++ [V.int ((v.toNat : Nat) : Int)]))
        rw [e]
    · rintro H2 ⟨r, rl, ro, S2, g2, h2⟩
      rw [List.length_map] at rl ro S2
      rw [List.take_length] at ro
      refine ⟨D, _, rfl, .inl ⟨SqL.of h2, fun U hU => ?_⟩⟩
      have gu := (Gq.refl g2.tb).new (o := .tup (r.map fun s => V.int (s : Nat))) hU
      have S3 := S2.ext gu.ext
      refine ⟨_, rfl, _, rfl, x, .ref U, ss, ts, r, rfl, gu.rep (g2.it S hx (it_trms (k := 0) ts)), rep_row upd_same, ok, by omega, ro, fun H3 k3 => ?_⟩
      have g3 := gu.same k3
      refine ⟨_, rfl, st, la, ca, _, 3, rfl, S3.ext (ExtN.of k3), by omega, by decide, by decide, fun v H4 v0 v1 sd S4 => ?_⟩
      refine ⟨_, _, rfl, rfl, _, _, rfl, rfl, q _ _ H4 ?_ ?_ ((g2.grow g3).trans (Gs.drew g3.tb (S3.ext (ExtN.of k3)) sd)) S4⟩
      · have := wt_big (r := r) bg
        have h2 : ts.length * (3 * 10 ^ 20) ≤ 4 * (3 * 10 ^ 20) := Nat.mul_le_mul_right _ (by omega)
        show (wt r ts + v - 1).natAbs ≤ _
        omega
      · omega
end
end K2
set_option Elab.async false
set_option linter.all false
set_option maxRecDepth 100000
set_option maxHeartbeats 4000000
/-! R7: weights moved. -/
namespace K2
open PySem PySem.Spec PyProof.Rows L2 BK LamX
theorem mvd_snoc (t : Trm) (d : Int) : ∀ {ts : List Trm} {ds : List Int}, ts.length = ds.length → mvd (ts ++ [t]) (ds ++ [d]) = mvd ts ds ++ [(t.1, t.2.map (· + d))]
  | [], [], _ => rfl
  | [], _ :: _, h => by simp at h
  | _ :: _, [], h => by simp at h
  | u :: ts, e :: ds, h => by
    have ih := mvd_snoc t d (ts := ts) (ds := ds) (by simpa using h)
    simp only [List.cons_append, mvd, ih]
theorem mvd_len : ∀ {ts : List Trm} {ds : List Int}, ts.length = ds.length → (mvd ts ds).length = ts.length
  | [], [], _ => rfl
  | [], _ :: _, h => by simp at h
  | _ :: _, [], h => by simp at h
  | u :: ts, e :: ds, h => by
    simp only [mvd, List.length_cons, mvd_len (ts := ts) (ds := ds) (by simpa using h)]
def spMoved (K : PySem.W.Frag) (T : List (Addr × Str)) : Sp := fun vs H Q _ => ∃ (st la ca : Addr) (n : Nat) (x : V) (ss : List Nat) (ts : List Trm) (b : Int), vs = [.ref st, x, .int b] ∧ StH st la ca n H ∧ n ≤ 90000 ∧ Rep K H x (dTs ts) ∧ SmallSz ss ∧ TmOk ss 0 ts ∧ Tabs T H ∧
  ∀ v ds n' H', ds.length = ts.length → (∀ d ∈ ds, d.natAbs ≤ 4) → n' ≤ n + 4 → Gs T st la H H' → StH st la ca n' H' → Rep K H' v (dSm (mvd ts ds, b + ds.sum)) → Q v H'
section
variable {P : Program} {w : World} {K : PySem.W.Frag} {mg : Str → Option Value} {base : Heap} {T : List (Addr × Str)}
theorem scMoved : FnScope ["state", "some", "low", "found", "left", "spot", "weights_so", "step", "worth"] ["state", "some", "low"] (defScope sMoved) := ⟨rfl, rfl, rfl, by decide +kernel, rfl, by decide +kernel, by decide +kernel⟩
theorem def_moved (B : Bl mg) (Dr : Def P w K mg base CX0 2 "_law_draw" ["state", "limit"] spDraw) (F : At K mg "_law_moved" sMoved ["state", "some", "low"]) : Def P w K mg base CX0 3 "_law_moved" ["state", "some", "low"] (spMoved K T) := by
  refine F.ok scMoved (fun vs H Q E h => ?_) (fun f cdv A outer s H vs Q E hr h => ?_)
  · obtain ⟨st, la, ca, n, x, ss, ts, b, rfl, _⟩ := h
    rfl
  · obtain ⟨st, la, ca, n, x, ss, ts, b, rfl, S, hn, hx, sm, ok, tb, q⟩ := h
    refine ⟨_, pss_cons (ps_par (i := 3) (j := 4) (by rfl) scMoved.nd rfl rfl (by decide) rfl rfl (pa_cons (pe_tup pa_nil) (pa_cons (pv 2) pa_nil)) (by rfl))
      (pss_cons (ps_for PassesOwn.never rfl (pi_tup (pv 1)) (pg_tup rfl (pgs_cons (pg_name (i := 5) scMoved.nd rfl (Or.inl rfl)) (pgs_cons (pg_name (i := 6) scMoved.nd rfl (Or.inl rfl)) pgs_nil)))
        (pss_cons (ps_set (i := 7) scMoved.nd rfl (Or.inr rfl) (pe_op op_sub (pe_def Dr hr (by rfl) pass0 (pa_cons (pv 0) (pa_cons pe_int pa_nil))) pe_int))
        (pss_one (ps_par (i := 3) (j := 4) (by rfl) scMoved.nd rfl rfl (by decide) rfl rfl
          (pa_cons (pe_op op_catA (pv 3) (pe_tup (pa_cons (pe_tup (pa_cons (pv 5) (pa_cons (pe_callTy call_tuple_of (by rfl) B.tup sTup (pa_cons (pe_lc (own := [("worth", 8)]) (g := gName 8) (tt := tYes) rfl scMoved.nd (pi_tup (pv 6))
              (blkOk_by (N := ["state", "some", "low", "found", "left", "spot", "weights_so", "step", "worth"]) (sc := defScope sMoved) (by decide +kernel)) (fun _ _ _ _ _ => pg_name (i := 8) scMoved.nd rfl (Or.inl rfl)) (fun _ _ _ _ _ => pts_nil)
              (fun _ _ _ _ _ => pe_op op_add (pv 8) (pv 7))) pa_nil)) pa_nil))) pa_nil)))
            (pa_cons (pe_op op_add (pv 4) (pv 7)) pa_nil)) (by rfl)))))
      (pss_one (ps_ret (pe_tup (pa_cons (pv 3) (pa_cons (pv 4) pa_nil)))))), ?_⟩
    obtain ⟨a, xs, rfl, ht, ra⟩ := repTs hx
    have hl := ra.length
    rw [List.length_map] at hl
    have lts := len_tm ok (Nat.zero_le _)
    have sl := sm.len
    refine ⟨by show 0 ≤ sizeLine; decide, fun e0 he0 => ?_⟩
    have g0 : Gs T st la H (upd H e0 (.tup [])) := (Gs.refl tb).new he0
    have S0 := S.ext (ext_new (o := .tup []) he0)
    refine ⟨_, rfl, _, _, rfl, ?_⟩
    refine ⟨_, rfl, a, rfl, ⟨_, g0.tup S ht⟩, for_tup (K := K) (a := a) (xs := xs) (fun i σ H' => ∃ (ds : List Int) (fv : V) (s5 s6 s7 : Option V), ds.length = i ∧ (∀ d ∈ ds, d.natAbs ≤ 4) ∧ StH st la ca (n + i) H' ∧ Gs T st la H H' ∧ Rep K H' fv (dTs (mvd (ts.take i) ds)) ∧
      σ = [some (.ref st), some (.ref a), some (.int b), some fv, some (.int (b + ds.sum)), s5, s6, s7, none]) ?_ ?_ ?_ ?_⟩
    · refine ⟨[], .ref e0, none, none, none, rfl, (fun d hd => by cases hd), S0, g0, .tup (.inl (.inl upd_same)) .nil, ?_⟩
      simp
      rfl
    · rintro i σ H' _ ⟨_, _, _, _, _, _, _, _, g, _⟩
      exact g.tup S ht
    · rintro i x σ H' hi ⟨ds, fv, s5, s6, s7, dl, db, SH, g, rf, rfl⟩
      obtain ⟨t, et, rt⟩ := tm_at ra hi
      obtain ⟨ta, wv, rfl, st', rw_⟩ := repTm (g.it S rt (it_trm (k := 0) t))
      have il : i < ts.length := (List.getElem?_eq_some_iff.mp et).1
      obtain ⟨_, sz, z1, z2, z3⟩ := ok.lt (List.mem_of_getElem? et)
      have z4 := (sm.all sz (List.mem_of_getElem? z1)).2
      refine ⟨ta, _, rfl, st', rfl, _, _, rfl, _, _, rfl, rfl, ?_⟩
      refine ⟨_, rfl, st, la, ca, _, 9, rfl, SH, by omega, by decide, by decide, fun r H2 r0 r1 sd S2 => ?_⟩
      have gd := Gs.drew g.tb SH sd
      have g2 := g.trans gd
      have rf2 : Rep K H2 fv (dTs (mvd (ts.take i) ds)) := gd.it SH rf (it_trms (k := 0) _)
      obtain ⟨wa, rfl, hw⟩ := repW (gd.it SH rw_ (it_ints (k := 0) _))
      obtain ⟨fa, fxs, rfl, ft, fr⟩ := repTs rf2
      have tkl : (ts.take i).length = ds.length := by rw [List.length_take]; omega
      have fl := fr.length
      rw [List.length_map, mvd_len tkl] at fl
      refine ⟨_, _, rfl, rfl, ?_⟩
      refine ⟨_, rfl, _, rfl, _, rfl, wa, rfl, ⟨_, hw⟩, fun D hD => ?_⟩
      refine lc_tup (K := K) (a := wa) (xs := t.2.map V.int) (fun k H3 => Same H2 H3 ∧ H3 D = some (.lst (((t.2.take k).map (· + (r - 4))).map V.int))) ?_ ?_ ?_ ?_
      · exact ⟨same_new (Same.refl H2) hD, upd_same⟩
      · rintro k H3 _ ⟨s3, _⟩
        exact sqt_same s3 hw
      · rintro k x H3 hk ⟨s3, h3⟩
        obtain ⟨v, hv, rfl⟩ := int_at hk
        have kl : k < t.2.length := (List.getElem?_eq_some_iff.mp hv).1
        refine ⟨rfl, yes ?_⟩
        rw [if_pos rfl]
        refine ⟨_, rfl, _, rfl, _, _, rfl, rfl, _, h3, by rw [sizeLine_eq]; simp; omega, same_mut s3 hD, ?_⟩
        rw [upd_same, take_snoc hv, List.map_append, List.map_append]
        rfl
      · rintro H3 ⟨s3, h3⟩
        rw [List.length_map, List.take_length] at h3
        refine ⟨D, _, rfl, .inl ⟨SqL.of h3, fun U2 hU2 => ⟨by show 2 ≤ sizeLine; decide, fun U3 hU3 => ⟨by show 1 ≤ sizeLine; decide, fun U4 hU4 => ?_⟩⟩⟩⟩
        have k3 := same_new (o := .tup ((t.2.map (· + (r - 4))).map V.int)) s3 hU2
        have k4 := same_new (o := .tup [.int (t.1 : Nat), .ref U2]) k3 hU3
        have k5 := same_new (o := .tup [.ref U3]) k4 hU4
        have ne34 : U3 ≠ U4 := fun z => by rw [← z, upd_same] at hU4; cases hU4
        have ne23 : U2 ≠ U3 := fun z => by rw [← z, upd_same] at hU3; cases hU3
        have ne24 : U2 ≠ U4 := fun z => by rw [← z, upd_ne ne23, upd_same] at hU4; cases hU4
        have x3 : (upd (upd (upd H3 U2 (.tup ((t.2.map (· + (r - 4))).map V.int))) U3 (.tup [.int (t.1 : Nat), .ref U2])) U4 (.tup [.ref U3])) U3 = some (.tup [.int (t.1 : Nat), .ref U2]) := by rw [upd_ne ne34, upd_same]
        have x2 : (upd (upd (upd H3 U2 (.tup ((t.2.map (· + (r - 4))).map V.int))) U3 (.tup [.int (t.1 : Nat), .ref U2])) U4 (.tup [.ref U3])) U2 = some (.tup ((t.2.map (· + (r - 4))).map V.int)) := by rw [upd_ne ne24, upd_ne ne23, upd_same]
        have rt5 : Rep K (upd (upd (upd H3 U2 (.tup ((t.2.map (· + (r - 4))).map V.int))) U3 (.tup [.int (t.1 : Nat), .ref U2])) U4 (.tup [.ref U3])) (.ref U3) (dTm (t.1, t.2.map (· + (r - 4)))) := .tup (.inl (.inl x3)) (.cons (.int _) (.cons (.tup (.inl (.inl x2)) (RepAll.ints (t.2.map (· + (r - 4))))) .nil))
        have more : ∀ {H7 : Hp} {v : V}, Same H2 H7 → Rep K H7 v (dTs (mvd (ts.take i) ds ++ [(t.1, t.2.map (· + (r - 4)))])) → ∃ (ds' : List Int) (fv : V) (s5 s6 s7 : Option V), ds'.length = i + 1 ∧ (∀ d ∈ ds', d.natAbs ≤ 4) ∧ StH st la ca (n + (i + 1)) H7 ∧ Gs T st la H H7 ∧ Rep K H7 fv (dTs (mvd (ts.take (i + 1)) ds')) ∧
            [some (V.ref st), some (V.ref a), some (V.int b), some v, some (V.int (b + ds.sum + (r - 4))), some (V.int (t.1 : Nat)), some (V.ref wa), some (V.int (r - 4)), none] = [some (.ref st), some (.ref a), some (.int b), some fv, some (.int (b + ds'.sum)), s5, s6, s7, none] := by
          intro H7 v k7 rv
          refine ⟨ds ++ [r - 4], v, some (.int (t.1 : Nat)), some (.ref wa), some (.int (r - 4)), by simp [dl], fun d hd => ?_, S2.ext (ExtN.of k7), g2.grow ((Gq.refl g2.tb).same k7), ?_, ?_⟩
          · rcases List.mem_append.mp hd with z | z
            · exact db d z
            · rw [List.mem_singleton.mp z]
              omega
          · rw [take_snoc et, mvd_snoc t (r - 4) tkl]
            exact rv
          · have e : b + (ds ++ [r - 4]).sum = b + ds.sum + (r - 4) := by simp; omega
            rw [e]
        have ft5 := sqt_same k5 ft
        have fr5 := RepAll.same k5 fr
        refine ⟨fa, U4, fxs, [.ref U3], rfl, rfl, ft5, .inl (.inl upd_same), by rw [sizeLine_eq]; simp; omega, fun ef => ?_, (fun _ z => by cases z), fun ef _ p hp => ?_⟩
        · subst ef
          refine ⟨_, rfl, _, rfl, _, _, rfl, rfl, _, _, rfl, more k5 ?_⟩
          have e0 : mvd (ts.take i) ds = [] := by
            have := mvd_len tkl
            exact List.eq_nil_of_length_eq_zero (by simp at fl; omega)
          rw [e0]
          exact .tup (.inl (.inl upd_same)) (.cons rt5 .nil)
        · have k6 := same_new (o := .tup (fxs ++ [.ref U3])) k5 hp
          refine ⟨_, rfl, _, rfl, _, _, rfl, rfl, _, _, rfl, more k6 ?_⟩
          have e5 : (mvd (ts.take i) ds ++ [(t.1, t.2.map (· + (r - 4)))]).map dTm = (mvd (ts.take i) ds).map dTm ++ [dTm (t.1, t.2.map (· + (r - 4)))] := by simp
          show Rep K _ _ (.tuple ((mvd (ts.take i) ds ++ [(t.1, t.2.map (· + (r - 4)))]).map dTm))
          rw [e5]
          exact .tup (.inl (.inl upd_same)) ((RepAll.same k6 fr).append (.cons (rt5.ext (ext_new hp)) .nil))
    · rintro σ H' ⟨ds, fv, s5, s6, s7, dl, db, SH, g, rf, rfl⟩
      rw [hl, List.take_length] at rf
      rw [hl] at dl SH
      refine ⟨_, rfl, _, rfl, by show 2 ≤ sizeLine; decide, fun p hp => ?_⟩
      have gu := (Gq.refl g.tb).new (o := .tup [fv, .int (b + ds.sum)]) hp
      exact q _ ds _ _ dl db (by omega) (g.grow gu) (SH.ext gu.ext) (.tup (.inl (.inl upd_same)) (.cons (gu.rep rf) (.cons (.int _) .nil)))
end
end K2
set_option Elab.async false
set_option linter.all false
set_option maxRecDepth 100000
set_option maxHeartbeats 4000000
/-! R8: a sum is right. -/
namespace K2
open PySem PySem.Spec PyProof.Rows L2 BK LamX
theorem at_new {H : Hp} {p q : Addr} {o u : HO} (h : H p = some u) (n : H q = none) : upd H q o p = some u := by
  rw [upd_ne (fun z => by rw [z, n] at h; cases h)]
  exact h
theorem mnL_big {m : Nat} {ws : List Int} (h : ∀ x ∈ ws, x.natAbs ≤ m) : (mnL ws).natAbs ≤ m := by
  by_cases z : ws = []
  · subst z
    exact Nat.zero_le _
  · exact h _ (mnL_mem z)
theorem mnS_big {m : Nat} : ∀ {ts : List Trm}, BigOk m ts → (mnS ts).natAbs ≤ ts.length * m
  | [], _ => Nat.zero_le _
  | t :: ts, h => by
    have ih := mnS_big (ts := ts) fun u hu => h u (List.mem_cons_of_mem _ hu)
    have h1 := mnL_big (h t List.mem_cons_self)
    have e : mnS (t :: ts) = mnL t.2 + mnS ts := by simp [mnS]
    rw [e, List.length_cons, Nat.add_mul]
    omega
theorem formK_mem {ts : List Trm} {u : Trm} (h : u ∈ formK ts) : ∃ t ∈ ts, u = (t.1, t.2.map (· - mnL t.2)) := by
  obtain ⟨t, ht, e⟩ := List.mem_filterMap.mp h
  unfold keep1 at e
  split at e
  · exact ⟨t, ht, (Option.some.inj e).symm⟩
  · cases e
theorem form_mem {ts : List Trm} {b : Int} {u : Trm} (h : u ∈ (formOf ts b).1) : u ∈ formK ts := by
  unfold formOf at h
  split at h
  · exact h
  · cases h
theorem big_form {m : Nat} {ts : List Trm} {b : Int} (h : BigOk m ts) : BigOk (2 * m) (formOf ts b).1 := by
  intro u hu x hx
  obtain ⟨t, ht, rfl⟩ := formK_mem (form_mem hu)
  obtain ⟨y, hy, rfl⟩ := List.mem_map.mp hx
  have h1 := h t ht y hy
  have h2 := mnL_big (h t ht)
  omega
/-- what a sum must be to be shown -/
structure SmS (s : List Trm × Int) : Prop where
  len : s.1.length ≤ 4
  tm : ∀ t ∈ s.1, t.1 < 100 ∧ t.2.length ≤ 4 ∧ ∀ x ∈ t.2, x.natAbs < 10 ^ 40
  bd : s.2.natAbs < 10 ^ 40
theorem SmS.shw {s : List Trm × Int} (h : SmS s) : Shw (dSm s) 20000 4 := by
  have i2 : Shw (.int s.2) 6000 3 := (shw_int h.bd).mono (by decide) (by decide)
  have i1 : Shw (dTs s.1) 6000 3 := by
    refine shw_tup (m := 1000) (k := 2) (fun d hd => ?_) (by rw [List.length_map]; have := h.len; omega)
    obtain ⟨t, ht, rfl⟩ := List.mem_map.mp hd
    obtain ⟨a, l, bs⟩ := h.tm t ht
    refine shw_tup (m := 300) (k := 1) (fun d hd => ?_) (by show 2 * 300 + 2 * 2 + 4 + 300 ≤ 1000; decide)
    simp only [List.mem_cons, List.not_mem_nil, or_false] at hd
    rcases hd with rfl | rfl
    · exact (shw_int (by show (t.1 : Int).natAbs < 10 ^ 40; omega)).mono (by decide) (by decide)
    · refine shw_tup (m := 41) (k := 0) (fun d hd => ?_) (by rw [List.length_map]; omega)
      obtain ⟨x, hx, rfl⟩ := List.mem_map.mp hd
      exact shw_int (bs x hx)
  refine shw_tup (m := 6000) (k := 3) (fun d hd => ?_) (by show 2 * 6000 + 2 * 2 + 4 + 6000 ≤ 20000; decide)
  simp only [List.mem_cons, List.not_mem_nil, or_false] at hd
  rcases hd with rfl | rfl
  · exact i1
  · exact i2
theorem sms_form {ss : List Nat} {ts : List Trm} {b : Int} {m : Nat} (sm : SmallSz ss) (ok : TmOk ss 0 ts) (bg : BigOk m ts) (hm : m ≤ 10 ^ 22) (hb : b.natAbs ≤ 10 ^ 23) : SmS (formOf ts b) := by
  have so := form_ok b ok
  have sl := sm.len
  refine ⟨?_, fun u hu => ?_, ?_⟩
  · have := len_tm so.tm (Nat.zero_le _)
    omega
  · obtain ⟨_, sz, z1, z2, z3⟩ := so.tm.lt hu
    have l1 := (List.getElem?_eq_some_iff.mp z1).1
    have l2 := (sm.all sz (List.mem_of_getElem? z1)).2
    refine ⟨by omega, by omega, fun x hx => ?_⟩
    have := big_form (b := b) bg u hu x hx
    omega
  · unfold formOf
    have h1 := mnS_big bg
    have h2 := len_tm ok (Nat.zero_le _)
    have h3 : ts.length * m ≤ 4 * m := Nat.mul_le_mul_right _ (by omega)
    split
    · show (b - mnS ts).natAbs < _
      omega
    · decide
theorem kept_form {ss r : List Nat} (hr : RowOk ss r) {ts : List Trm} (b : Int) (ok : TmOk ss 0 ts) : (wt r (formOf ts b).1 ≥ (formOf ts b).2) ↔ 0 ≤ wt r ts - b := by
  have h1 := wt_form hr ok
  have h2 := wt_ge hr ok
  unfold formOf
  split
  · show wt r (formK ts) ≥ b - mnS ts ↔ _
    omega
  · show wt r [] ≥ 0 ↔ _
    rw [wt_nil]
    omega
theorem far_form {ss r : List Nat} (hr : RowOk ss r) {ts : List Trm} {b : Int} (ok : TmOk ss 0 ts) (ne : formOf ts b ≠ ([], 0)) : wt r (formOf ts b).1 - (formOf ts b).2 = wt r ts - b := by
  have h1 := wt_form hr ok
  unfold formOf at ne ⊢
  split
  · show wt r (formK ts) - (b - mnS ts) = _
    omega
  · rename_i g
    rw [if_neg g] at ne
    exact absurd rfl ne
def spRight (K : PySem.W.Frag) (T : List (Addr × Str)) : Sp := fun vs H Q _ => ∃ (x y : V) (ss : List Nat) (ts : List Trm) (b : Int), vs = [x, y, .int b] ∧ Rep K H x (dN ss) ∧ Rep K H y (dTs ts) ∧ SmallSz ss ∧ TmOk ss 0 ts ∧ BigOk (3 * 10 ^ 20) ts ∧ b.natAbs ≤ 10 ^ 22 ∧ Tabs T H ∧
  ∀ H', Gq T H H' → Q (.bl true) H'
/-- the defs that the law calls -/
structure Pr (P : Program) (w : World) (K : PySem.W.Frag) (mg : Str → Option Value) (base : Heap) (T : List (Addr × Str)) : Prop where
  bl : Bl mg
  begin : Def P w K mg base CX0 1 "_law_begin" ["script"] (spBegin K)
  draw : Def P w K mg base CX0 2 "_law_draw" ["state", "limit"] spDraw
  many : Def P w K mg base CX0 3 "_law_many" ["state"] (spMany K T)
  drawn : Def P w K mg base CX0 3 "_law_drawn" ["state", "sizes_so"] (spDrawn K T)
  rows : Def P w K mg base CX0 1 "_law_rows" ["sizes_so"] (spRows K)
  weight : Def P w K mg base CX0 1 "_law_weight" ["some", "row_so"] (spWeight K)
  lform : Def P w K mg base CX0 1 "_law_form" ["some", "low"] (spForm K T)
  like : DefG P w K mg base 1 "_law_like" ["got", "due"] (spLike K)
  bound : Def P w K mg base CX0 3 "_law_bound" ["state", "some", "sizes_so"] (spBound K T)
  moved : Def P w K mg base CX0 3 "_law_moved" ["state", "some", "low"] (spMoved K T)
  needSum : Def P w K mg base CX0 5 "need_sum" ["sizes", "value"] (spNeedSum K T)
  formOf : Def P w K mg base CX0 5 "form_of" ["sizes", "terms", "bound"] (spFormOf K T)
  weightOf : Def P w K mg base CX0 6 "weight_of" ["sizes", "one", "row"] (spWeightOf K T)
  keptBy : Def P w K mg base CX0 6 "kept_by" ["sizes", "one", "row"] (spKept K T)
theorem row_of {K : PySem.W.Frag} {H : Hp} {fs : List V} {ss : List Nat} {i : Nat} {x : V} (r : RepAll K H fs ((rowsOf ss).map dN)) (h : fs[i]? = some x) : ∃ r, (rowsOf ss)[i]? = some r ∧ RowOk ss r ∧ Rep K H x (dN r) := by
  obtain ⟨d, e, rd⟩ := rep_at r h
  rw [List.getElem?_map] at e
  cases z : (rowsOf ss)[i]? with
  | none => rw [z] at e; cases e
  | some r =>
    rw [z] at e
    cases e
    exact ⟨r, rfl, mem_rowsOf.mp (List.mem_of_getElem? z), rd⟩
section
variable {P : Program} {w : World} {K : PySem.W.Frag} {mg : Str → Option Value} {base : Heap} {T : List (Addr × Str)}
theorem scRight : FnScope ["sizes_so", "some", "low", "due", "told", "row_so", "far", "here"] ["sizes_so", "some", "low"] (defScope sRight) := ⟨rfl, rfl, rfl, by decide +kernel, rfl, by decide +kernel, by decide +kernel⟩
theorem def_right (L : Pr P w K mg base T) (F : At K mg "_law_right" sRight ["sizes_so", "some", "low"]) : DefG P w K mg base 7 "_law_right" ["sizes_so", "some", "low"] (spRight K T) := by
  refine F.okG scRight (fun vs H Q E h => ?_) (fun f cdv A outer s H vs Q E hgd hr h => ?_)
  · obtain ⟨x, y, ss, ts, b, rfl, _⟩ := h
    rfl
  · obtain ⟨x, y, ss, ts, b, rfl, hx, hy, sm, ok, bg, hb, tb, q⟩ := h
    refine ⟨_, pss_cons (ps_set (i := 3) scRight.nd rfl (Or.inl rfl) (pe_def L.lform (hr.mono (by decide)) (by rfl) pass0 (pa_cons (pv 1) (pa_cons (pv 2) pa_nil))))
      (pss_cons (ps_set (i := 4) scRight.nd rfl (Or.inl rfl) (pe_def L.formOf (hr.mono (by decide)) (by rfl) pass0 (pa_cons (pv 0) (pa_cons (pv 1) (pa_cons (pv 2) pa_nil)))))
      (pss_cons (ps_if (pt_not (pt_val (pe_defG L.like hgd (hr.mono (by decide)) (by rfl) (pa_cons (pe_lst (pa_cons (pv 4) (pa_cons (pe_def L.needSum (hr.mono (by decide)) (by rfl) pass0 (pa_cons (pv 0) (pa_cons (pv 4) pa_nil))) pa_nil))) (pa_cons (pe_lst (pa_cons (pv 3) (pa_cons (pv 3) pa_nil))) pa_nil))))) (pss_one (ps_ret pe_bl)) pss_nil)
      (pss_cons (ps_for PassesOwn.never rfl (pi_list (pe_def L.rows (hr.mono (by decide)) (by rfl) pass0 (pa_cons (pv 0) pa_nil))) (pg_name (i := 5) scRight.nd rfl (Or.inl rfl))
        (pss_cons (ps_set (i := 6) scRight.nd rfl (Or.inl rfl) (pe_op op_sub (pe_def L.weight (hr.mono (by decide)) (by rfl) pass0 (pa_cons (pv 1) (pa_cons (pv 5) pa_nil))) (pv 2)))
        (pss_cons (ps_set (i := 7) scRight.nd rfl (Or.inl rfl) (pe_def L.weightOf (hr.mono (by decide)) (by rfl) pass0 (pa_cons (pv 0) (pa_cons (pv 4) (pa_cons (pv 5) pa_nil)))))
        (pss_cons (ps_if (pt_not (pt_val (pe_defG L.like hgd (hr.mono (by decide)) (by rfl) (pa_cons (pe_def L.keptBy (hr.mono (by decide)) (by rfl) pass0 (pa_cons (pv 0) (pa_cons (pv 4) (pa_cons (pv 5) pa_nil)))) (pa_cons (pe_cmpR op_ge (pv 6) pe_int (nomark _)) pa_nil))))) (pss_one (ps_ret pe_bl)) pss_nil)
        (pss_one (ps_if (pt_or (po_cons (pt_not (pt_val (pe_defG L.like hgd (hr.mono (by decide)) (by rfl) (pa_cons (pv 7) (pa_cons (pe_def L.weight (hr.mono (by decide)) (by rfl) pass0 (pa_cons (pe_ix ix_tup (pv 3) pe_int (fun _ _ => rfl)) (pa_cons (pv 5) pa_nil))) pa_nil)))))
            (po_cons (pt_and (pn_cons (pt_cmpR (op_neD (hu64 hr)) (pv 3) (pe_tup (pa_cons (pe_tup pa_nil) (pa_cons pe_int pa_nil))) (nomark _)) (pn_cons (pt_cmpR op_ne (pe_op op_sub (pv 7) (pe_ix ix_tup (pv 4) pe_int (fun _ _ => rfl))) (pv 6) (nomark _)) pn_nil))) po_nil))) (pss_one (ps_ret pe_bl)) pss_nil))))))
      (pss_one (ps_ret (pe_defG L.like hgd (hr.mono (by decide)) (by rfl) (pa_cons (pe_def L.formOf (hr.mono (by decide)) (by rfl) pass0 (pa_cons (pv 0) (pa_cons (pe_ix ix_tup (pv 4) pe_int (fun _ _ => rfl)) (pa_cons (pe_ix ix_tup (pv 4) pe_int (fun _ _ => rfl)) pa_nil)))) (pa_cons (pv 4) pa_nil)))))))), ?_⟩
    have so := form_ok b ok
    have ss4 := sms_form sm ok bg (by decide) (by omega : b.natAbs ≤ 10 ^ 23)
    have bgf := big_form (b := b) bg
    have fs' := form_self so
    generalize hS : formOf ts b = S at so ss4 bgf fs'
    have tl := len_tm ok (Nat.zero_le _)
    have sl := len_tm so.tm (Nat.zero_le _)
    have s4 := sm.len
    refine ⟨_, rfl, _, rfl, y, ss, ts, b, rfl, hy, sm.ok, ok, tb, fun v H1 g1 hv => ?_⟩
    rw [hS] at hv
    refine ⟨_, rfl, _, rfl, _, rfl, x, y, ss, ts, b, rfl, g1.rep hx, g1.rep hy, sm.ok, ok, g1.tb, fun u H2 g2 hu => ?_⟩
    rw [hS] at hu
    have g12 := g1.trans g2
    refine ⟨_, rfl, _, rfl, _, rfl, x, u, ss, S, rfl, g12.rep hx, hu, sm.ok, so, g2.tb, fun H3 g3 => ⟨by show 2 ≤ sizeLine; decide, fun l1 k1 => ⟨_, rfl, _, rfl, by show 2 ≤ sizeLine; decide, fun l2 k2 => ?_⟩⟩⟩
    have g4 := (g3.new (o := .lst [u, u]) k1).new (o := .lst [v, v]) k2
    have g24 := g2.trans g4
    have hv4 := g24.rep hv
    have hu4 := g4.rep hu
    have f1 := at_new (o := .lst [v, v]) (upd_same (H := H3) (a := l1) (o := .lst [u, u])) k2
    have f2 := upd_same (H := upd H3 l1 (.lst [u, u])) (a := l2) (o := .lst [v, v])
    refine ⟨.ref l1, .ref l2, .list [dSm S, dSm S], 70000, 5, rfl, .lst (SqL.of f1) (.cons hu4 (.cons hu4 .nil)), .lst (SqL.of f2) (.cons hv4 (.cons hv4 .nil)), ?_, by decide, by decide, _, rfl, ?_⟩
    · refine shw_list (m := 20000) (k := 4) (fun d hd => ?_) (by show 2 * 20000 + 2 * 2 + 4 + 20000 ≤ 70000; decide)
      simp only [List.mem_cons, List.not_mem_nil, or_false, or_self] at hd
      subst hd
      exact ss4.shw
    generalize upd (upd H3 l1 (.lst [u, u])) l2 (.lst [v, v]) = H4 at g4 g24 hv4 hu4 f1 f2 ⊢
    have g14 := g1.trans g24
    clear f1 f2 k1 k2
    refine ⟨_, rfl, x, ss, rfl, g14.rep hx, sm, fun l fs H5 s5 hl rf => ?_⟩
    have g45 := (Gq.refl g4.tb).same s5
    have g15 := g14.same s5
    obtain ⟨da, dt, rfl, hds, hdt⟩ := repSm (g45.rep hv4)
    obtain ⟨ua, ut, rfl, hus, hut⟩ := repSm (g45.rep hu4)
    refine ⟨l, rfl, ⟨_, SqL.of hl⟩, for_list (K := K) (a := l) (xs := fs) (fun i σ H' => ∃ (s5 s6 s7 : Option V), Gq T H5 H' ∧ σ = [some x, some y, some (.int b), some (.ref da), some (.ref ua), s5, s6, s7]) ?_ ?_ ?_ ?_⟩
    · exact ⟨none, none, none, Gq.refl g45.tb, rfl⟩
    · rintro i σ H' _ ⟨_, _, _, g, _⟩
      exact SqL.of (g.ext _ _ hl fun ps z => by cases z)
    · rintro i xr σ H6 hi ⟨_, _, _, g6, rfl⟩
      obtain ⟨r, er, ro, rr⟩ := row_of rf hi
      have g16 := g15.trans g6
      refine ⟨_, rfl, _, rfl, y, xr, ss, ts, r, rfl, g16.rep hy, g6.rep rr, ok, by omega, ro, fun H7 s7 => ⟨_, rfl, _, _, rfl, rfl, ?_⟩⟩
      have g7 := g6.same s7
      have g17 := g15.trans g7
      refine ⟨_, rfl, _, rfl, _, rfl, x, .ref ua, xr, ss, S, r, rfl, g17.rep hx, (g45.trans g7).rep hu4, g7.rep rr, sm.ok, so, ro, g7.tb, fun H8 g8 => ?_⟩
      have g58 := g7.trans g8
      refine ⟨_, rfl, _, rfl, _, rfl, x, .ref ua, xr, ss, S, r, rfl, (g15.trans g58).rep hx, (g45.trans g58).rep hu4, g58.rep rr, sm.ok, so, ro, g8.tb, fun H9 g9 => ?_⟩
      have g59 := g58.trans g9
      have ek : decide (0 ≤ wt r ts - b) = decide (wt r S.1 ≥ S.2) := by
        rw [← hS]
        exact decide_eq_decide.mpr (kept_form ro b ok).symm
      refine ⟨_, rfl, _, _, rfl, rfl, _, _, .bool (decide (wt r S.1 ≥ S.2)), 41, 0, rfl, .bl _, (by show Rep K H9 (.bl (decide (0 ≤ wt r ts - b))) _; rw [ek]; exact .bl _), shw_bl _, by decide, by decide, _, rfl, ?_⟩
      have wb := wt_big (r := r) bgf
      have wl : S.1.length * (2 * (3 * 10 ^ 20)) ≤ 4 * (2 * (3 * 10 ^ 20)) := Nat.mul_le_mul_right _ (by omega)
      refine ⟨_, rfl, _, rfl, da, _, _, _, rfl, rfl, sqt_ext g59.ext hds, atI_nat (j := 0) rfl, _, rfl, dt, xr, ss, S.1, r, rfl, g59.rep hdt, g59.rep rr, so.tm, by omega, ro, fun H10 s10 => ?_⟩
      refine ⟨_, _, .int (wt r S.1), 41, 0, rfl, .int _, .int _, shw_int (by omega), by decide, by decide, _, rfl, ?_⟩
      have g10 := g59.same s10
      refine ⟨_, rfl, by show 0 ≤ sizeLine; decide, fun p hp => ⟨by show 2 ≤ sizeLine; decide, fun p2 hp2 => ?_⟩⟩
      have g12 := (g10.new (o := .tup []) hp).new (o := .tup [.ref p, .int 0]) hp2
      have f1 := at_new (o := .tup [.ref p, .int 0]) (upd_same (H := H10) (a := p) (o := .tup [])) hp2
      have rd : Rep K (upd (upd H10 p (.tup [])) p2 (.tup [.ref p, .int 0])) (.ref p2) (dSm ([], 0)) := .tup (SqT.of upd_same) (.cons (.tup (SqT.of f1) .nil) (.cons (.int _) .nil))
      refine ⟨dSm S, dSm ([], 0), dp_of ((g45.trans g12).rep hv4), dp_of rd, (it_sum (k := 0) S).shaped (by decide), (it_sum (k := 0) _).shaped (by decide), _, rfl, ?_⟩
      have done : ∀ {H : Hp}, Gq T H5 H → ∃ (s5 s6 s7 : Option V), Gq T H5 H ∧ [some x, some y, some (V.int b), some (V.ref da), some (V.ref ua), some xr, some (V.int (wt r ts - b)), some (V.int (wt r S.1))] = [some x, some y, some (.int b), some (.ref da), some (.ref ua), s5, s6, s7] := fun g => ⟨_, _, _, g, rfl⟩
      have ev := (it_sum (k := 0) S).eqv (dSm ([], 0)) 4 (it_sum (k := 0) _)
      cases c : (dSm S).eqv (dSm ([], 0)) with
      | true => exact done g12
      | false =>
        have ne : formOf ts b ≠ ([], 0) := fun z => by
          rw [hS] at z
          rw [ev.mpr (by rw [z])] at c
          cases c
        have ef := far_form ro ok ne
        rw [hS] at ef
        refine ⟨_, rfl, _, rfl, ua, _, _, _, rfl, rfl, sqt_ext g12.ext hus, atI_nat (j := 1) rfl, _, _, rfl, rfl, _, rfl, rfl, _, rfl, ?_⟩
        have e0 : (!decide (V.int (wt r S.1 - S.2) = V.int (wt r ts - b))) = false := by rw [ef]; simp
        exact ifN e0 (done g12)
    · rintro σ H6 ⟨_, _, _, g6, rfl⟩
      have g16 := g15.trans g6
      refine ⟨_, rfl, _, rfl, ua, _, _, _, rfl, rfl, sqt_ext g6.ext hus, atI_nat (j := 0) rfl, _, rfl, ua, _, _, _, rfl, rfl, sqt_ext g6.ext hus, atI_nat (j := 1) rfl, x, ut, ss, S.1, S.2, rfl, g16.rep hx, g6.rep hut, sm.ok, so.tm, g6.tb, fun z H7 g7 hz => ?_⟩
      rw [fs'] at hz
      exact ⟨_, rfl, z, .ref ua, dSm S, 20000, 4, rfl, hz, ((g45.trans g6).trans g7).rep hu4, ss4.shw, by decide, by decide, q H7 (g16.trans g7)⟩
end
end K2
set_option Elab.async false
set_option linter.all false
set_option maxRecDepth 100000
set_option maxHeartbeats 4000000
/-! KitK: calls by keywords alone. -/
namespace BK
open PySem PySem.Spec PyProof.Rows L2
/-- a def that keeps its promise, called by the keywords ks, in the order that g tells -/
structure DefK (P : Program) (w : World) (K : PySem.W.Frag) (mg : Str → Option Value) (base : Heap) (CX : CXT) (k : Nat) (x : Str) (ps ks : List Str) (g : List Value → List Value) (gV : List V → List V) (sp : Sp) : Prop where
  ex : ∃ (f : Addr) (fd : FuncData), FnOk P w K mg base CX k f fd ps sp ∧ mg x = some (.ref f) ∧ PySem.W.keepIn K (.ref f) = true ∧ KBn K fd ps 0 ks (fun _ ws => g ws) (fun _ zs => gV zs)
section
variable {P : Program} {w : World} {K : PySem.W.Frag} {mg : Str → Option Value} {base : Heap} {CX : CXT} {k : Nat} {x : Str} {ps ks : List Str} {g : List Value → List Value} {gV : List V → List V} {sp : Sp}
theorem DefK.of {st : Stmt} (D : Def P w K mg base CX k x ps sp) (A : At K mg x st ps) (rel : ∀ {zs : List V} {ws : List Value}, Vals zs ws → Vals (gV zs) (g ws))
    (h : ∀ (kV doc pm : Value) (an : Option Addr) (cdv ct : Value) (ws : List Value), ws.length = ks.length → bindArgs (PySem.W.fnOf x x (defArgs st) (defBody st) (defScope st) .none kV doc pm an cdv ct) ⟨[], ks.zip ws⟩ = pure (ps.zip (g ws))) : DefK P w K mg base CX k x ps ks g gV sp := by
  obtain ⟨f, fd, F, m, kp, _, oc, od, osl, lk⟩ := D.ex
  obtain ⟨f', fd', Fn, m', _⟩ := A.ex
  obtain ⟨oc', od', kV, doc, pm, an, cdv, ct, osl', e, lk', _⟩ := Fn.ex
  rw [m] at m'
  cases m'
  rw [lk] at lk'
  cases lk'
  subst e
  refine ⟨f, _, F, m, kp, ⟨fun s us ws _ l1 l2 => ?_, fun _ rz => rel rz⟩⟩
  have eu : us = [] := List.eq_nil_of_length_eq_zero l1
  subst eu
  exact BindsTo.of_eq (h kV doc pm an cdv ct ws l2)
end
section
variable {X : Cx} {CX : CXT} {k : Nat} {ps ks : List Str} {sp : Sp} {E : XK} {x : Str} {p pos : Pos} {kws : List Keyword} {tk : TA} {g : List Value → List Value} {gV : List V → List V}
def tCallW (n : Nat) (sp : Sp) (gV : List V → List V) (E : XK) (tk : TA) : TE := fun σ H Q => tk σ H fun zs H2 => zs.length = n ∧ sp (gV zs) H2 Q E
theorem pe_defK (D : DefK X.prog X.w X.K X.mg X.base CX k x ps ks g gV sp) (hr : Room k X.A) (hg : Gl X x) (hx : Passes CX X E) (hkw : PK X kws tk) (hall : (backToKw pos (keywordEach kws X.env)).all (·.1.isSome) = true := by rfl) (hks : (backToKw pos (keywordEach kws X.env)).filterMap (·.1) = ks := by rfl)
    (hdb : (x == ("__debug__" : Str)) = false := by decide) (hpl : ((backTo pos (starEach [] X.env)).any (·.1) || (backToKw pos (keywordEach kws X.env)).any (·.1.isNone)) = false := by rfl) :
    PE X (.Call (.Name x p) [] kws pos) (tCallW ks.length sp gV E tk) := by
  obtain ⟨f, fd, F, m, kp, b⟩ := D.ex
  constructor
  intro pins s σ H Q I h
  apply wpAny_Call_Name_kw
  apply ld_glob I hg m _ hdb
  apply PySem.W.callWith_KW0 (h₀ := X.base) I.ok.mod.kin kp hall _ hpl
  apply thn (hkw.run pos pins s σ H _ I h)
  rintro ws s2 ⟨zs, H2, I2, rz, ln, q2⟩
  refine ⟨I2.kIn, ?_⟩
  rw [hks]
  exact run_fnN (us := []) (vs := []) F hr b hx I2 .nil rz rfl ln q2
end
end BK
set_option Elab.async false
set_option linter.all false
set_option maxRecDepth 100000
set_option maxHeartbeats 4000000
/-! R9: the law itself. -/
namespace K2
open PySem PySem.Spec PyProof.Rows L2 BK LamX
/-- two branches that meet -/
theorem joinIf {c : Bool} {t u : TS} {D : Ends} {σ : L2.St} {H : Hp} (C : L2.St → Hp → Prop) (rest : ∀ σ' H', C σ' H' → D.nx σ' H') (a : c = true → (∀ σ' H', C σ' H' → D.nx σ' H') → t D σ H) (b : c = false → (∀ σ' H', C σ' H' → D.nx σ' H') → u D σ H) : if c = true then t D σ H else u D σ H := by
  cases c with
  | true => exact a rfl rest
  | false => exact b rfl rest
theorem rep_tnew {K : PySem.W.Frag} {H : Hp} {p : Addr} {xs : List V} {ds : List PyData} (h : H p = none) (r : RepAll K H xs ds) : Rep K (upd H p (.tup xs)) (.ref p) (.tuple ds) := .tup (SqT.of upd_same) (r.ext (ext_new h))
/-- two sums have the same gap everywhere exactly if their forms are one -/
theorem apart_iff {ss : List Nat} (h1 : ∀ s ∈ ss, 1 ≤ s) {ts us : List Trm} {b c : Int} (ok : TmOk ss 0 ts) (ok' : TmOk ss 0 us) (n1 : (formOf ts b).2 > 0) (n2 : (formOf us c).2 > 0) :
    ((rowsOf ss).all fun r => decide (wt r ts - b - wt r us + c = 0)) = true ↔ formOf ts b = formOf us c := by
  have e1 : formOf ts b ≠ ([], 0) := fun z => by rw [z] at n1; exact absurd n1 (by decide)
  have e2 : formOf us c ≠ ([], 0) := fun z => by rw [z] at n2; exact absurd n2 (by decide)
  rw [List.all_eq_true]
  constructor
  · intro h
    refine one_form h1 (form_ok b ok) (form_ok c ok') fun r ro => ?_
    have := of_decide_eq_true (h r (mem_rowsOf.mpr ro))
    rw [far_form ro ok e1, far_form ro ok' e2]
    omega
  · intro e r hr
    have ro := mem_rowsOf.mp hr
    have q1 := far_form ro ok e1
    have q2 := far_form ro ok' e2
    rw [e] at q1
    exact decide_eq_true (by omega)
def spLaw (K : PySem.W.Frag) (T : List (Addr × Str)) : Sp := fun vs H Q _ => ∃ (a : Addr) (ns : List Int), vs = [.ref a] ∧ SqL K H a (ns.map V.int) ∧ ns.length ≤ 63 ∧ Tabs T H ∧ ∀ H', Q (.bl true) H'
def nLa : List Str := ["script", "state", "turn", "sizes_so", "some", "low", "other_so", "far", "near", "there", "apart", "row_so", "gap", "got"]
structure Pk (P : Program) (w : World) (K : PySem.W.Frag) (mg : Str → Option Value) (base : Heap) (T : List (Addr × Str)) : Prop where
  right : DefG P w K mg base 7 "_law_right" ["sizes_so", "some", "low"] (spRight K T)
  kForm : DefK P w K mg base CX0 5 "form_of" ["sizes", "terms", "bound"] ["bound", "terms", "sizes"] (fun ws => [ws.getD 2 .none, ws.getD 1 .none, ws.getD 0 .none]) (fun zs => [zs.getD 2 .non, zs.getD 1 .non, zs.getD 0 .non]) (spFormOf K T)
  kWeight : DefK P w K mg base CX0 6 "weight_of" ["sizes", "one", "row"] ["row", "one", "sizes"] (fun ws => [ws.getD 2 .none, ws.getD 1 .none, ws.getD 0 .none]) (fun zs => [zs.getD 2 .non, zs.getD 1 .non, zs.getD 0 .non]) (spWeightOf K T)
theorem shw_last : Shw (.list [dSm ([], 3), dSm ([], 0), dSm ([], 1), .int 2]) 3000 5 := ⟨⟨by decide +kernel, by decide +kernel, by decide +kernel⟩, by decide +kernel⟩
section
variable {P : Program} {w : World} {K : PySem.W.Frag} {mg : Str → Option Value} {base : Heap} {T : List (Addr × Str)}
theorem scLaw : FnScope nLa ["script"] (defScope sLaw) := ⟨rfl, rfl, rfl, by decide +kernel, rfl, by decide +kernel, by decide +kernel⟩
theorem def_law (L : Pr P w K mg base T) (Z : Pk P w K mg base T) (F : At K mg "law" sLaw ["script"]) : DefG P w K mg base 8 "law" ["script"] (spLaw K T) := by
  refine F.okG scLaw (fun vs H Q E h => ?_) (fun fa cdv A outer s H vs Q E hgd hr h => ?_)
  · obtain ⟨a, ns, rfl, _⟩ := h
    rfl
  · obtain ⟨a, ns, rfl, ha, hn, tg, q⟩ := h
    refine ⟨_, pss_cons (ps_set (i := 1) scLaw.nd rfl (Or.inl rfl) (pe_def L.begin (hr.mono (by decide)) (by rfl) pass0 (pa_cons (pv 0) pa_nil)))
      (pss_cons (ps_for PassesOwn.never rfl (pi_range1 (by rfl) L.bl.rng (pa_cons pe_int pa_nil)) (pg_name (i := 2) scLaw.nd rfl (Or.inl rfl))
        (pss_cons (ps_set (i := 3) scLaw.nd rfl (Or.inl rfl) (pe_def L.many (hr.mono (by decide)) (by rfl) pass0 (pa_cons (pv 1) pa_nil)))
        (pss_cons (ps_set (i := 4) scLaw.nd rfl (Or.inl rfl) (pe_def L.drawn (hr.mono (by decide)) (by rfl) pass0 (pa_cons (pv 1) (pa_cons (pv 3) pa_nil))))
        (pss_cons (ps_set (i := 5) scLaw.nd rfl (Or.inl rfl) (pe_def L.bound (hr.mono (by decide)) (by rfl) pass0 (pa_cons (pv 1) (pa_cons (pv 4) (pa_cons (pv 3) pa_nil)))))
        (pss_cons (ps_if (pt_not (pt_val (pe_defG Z.right hgd hr (by rfl) (pa_cons (pv 3) (pa_cons (pv 4) (pa_cons (pv 5) pa_nil)))))) (pss_one (ps_ret pe_bl)) pss_nil)
        (pss_cons (ps_asg (pe_def L.moved (hr.mono (by decide)) (by rfl) pass0 (pa_cons (pv 1) (pa_cons (pv 4) (pa_cons (pv 5) pa_nil)))) (pg_tup rfl (pgs_cons (pg_name (i := 6) scLaw.nd rfl (Or.inl rfl)) (pgs_cons (pg_name (i := 7) scLaw.nd rfl (Or.inl rfl)) pgs_nil))))
        (pss_cons (ps_if (pt_not (pt_val (pe_defG L.like hgd (hr.mono (by decide)) (by rfl) (pa_cons (pe_def L.formOf (hr.mono (by decide)) (by rfl) pass0 (pa_cons (pv 3) (pa_cons (pv 6) (pa_cons (pv 7) pa_nil)))) (pa_cons (pe_def L.formOf (hr.mono (by decide)) (by rfl) pass0 (pa_cons (pv 3) (pa_cons (pv 4) (pa_cons (pv 5) pa_nil)))) pa_nil))))) (pss_one (ps_ret pe_bl)) pss_nil)
        (pss_cons (ps_set (i := 8) scLaw.nd rfl (Or.inl rfl) (pe_def L.formOf (hr.mono (by decide)) (by rfl) pass0 (pa_cons (pv 3) (pa_cons (pv 4) (pa_cons (pv 5) pa_nil)))))
        (pss_cons (ps_if (pt_cmpR op_eq (pe_def L.draw (hr.mono (by decide)) (by rfl) pass0 (pa_cons (pv 1) (pa_cons pe_int pa_nil))) pe_int (nomark _))
          (pss_cons (ps_set (i := 6) scLaw.nd rfl (Or.inl rfl) (pe_def L.drawn (hr.mono (by decide)) (by rfl) pass0 (pa_cons (pv 1) (pa_cons (pv 3) pa_nil))))
          (pss_one (ps_set (i := 7) scLaw.nd rfl (Or.inl rfl) (pe_def L.bound (hr.mono (by decide)) (by rfl) pass0 (pa_cons (pv 1) (pa_cons (pv 6) (pa_cons (pv 3) pa_nil))))))) pss_nil)
        (pss_cons (ps_set (i := 9) scLaw.nd rfl (Or.inl rfl) (pe_def L.formOf (hr.mono (by decide)) (by rfl) pass0 (pa_cons (pv 3) (pa_cons (pv 6) (pa_cons (pv 7) pa_nil)))))
        (pss_one (ps_if (pt_and (pn_cons (pt_cmpR op_gt (pe_ix ix_tup (pv 8) pe_int (fun _ _ => rfl)) pe_int (nomark _)) (pn_cons (pt_cmpR op_gt (pe_ix ix_tup (pv 9) pe_int (fun _ _ => rfl)) pe_int (nomark _)) pn_nil)))
          (pss_cons (ps_set (i := 10) scLaw.nd rfl (Or.inl rfl) pe_bl)
          (pss_cons (ps_for PassesOwn.never rfl (pi_list (pe_def L.rows (hr.mono (by decide)) (by rfl) pass0 (pa_cons (pv 3) pa_nil))) (pg_name (i := 11) scLaw.nd rfl (Or.inl rfl))
            (pss_cons (ps_set (i := 12) scLaw.nd rfl (Or.inl rfl) (pe_op op_add (pe_op op_sub (pe_op op_sub (pe_def L.weight (hr.mono (by decide)) (by rfl) pass0 (pa_cons (pv 4) (pa_cons (pv 11) pa_nil))) (pv 5)) (pe_def L.weight (hr.mono (by decide)) (by rfl) pass0 (pa_cons (pv 6) (pa_cons (pv 11) pa_nil)))) (pv 7)))
            (pss_one (ps_set (i := 10) scLaw.nd rfl (Or.inl rfl) (pe_or (pv 10) (pe_one (pe_cmpR op_ne (pv 12) pe_int (nomark _))))))))
          (pss_one (ps_if (pt_cmpR op_eq (pe_cmpR (op_eqD (hu64 hr)) (pv 8) (pv 9) (nomark _)) (pv 10) (nomark _)) (pss_one (ps_ret pe_bl)) pss_nil)))) pss_nil))))))))))))
      (pss_cons (ps_set (i := 13) scLaw.nd rfl (Or.inl rfl) (pe_lst (pa_cons (pe_defK (E := E0) Z.kForm (hr.mono (by decide)) (by rfl) pass0 (pk_cons pe_int (pk_cons (pe_tup pa_nil) (pk_cons (pe_tup pa_nil) pk_nil))))
        (pa_cons (pe_def L.formOf (hr.mono (by decide)) (by rfl) pass0 (pa_cons (pe_tup (pa_cons pe_int pa_nil)) (pa_cons (pe_tup (pa_cons (pe_tup (pa_cons pe_int (pa_cons (pe_tup (pa_cons (pe_un un_neg pe_int) (pa_cons pe_int pa_nil))) pa_nil))) pa_nil)) (pa_cons (pe_un un_neg pe_int) pa_nil))))
        (pa_cons (pe_def L.formOf (hr.mono (by decide)) (by rfl) pass0 (pa_cons (pe_tup (pa_cons pe_int pa_nil)) (pa_cons (pe_tup (pa_cons (pe_tup (pa_cons pe_int (pa_cons (pe_tup (pa_cons pe_int (pa_cons pe_int pa_nil))) pa_nil))) pa_nil)) (pa_cons pe_int pa_nil)))) pa_nil)))))
      (pss_cons (ps_expr (pe_bm PySem.F.plainAttrs_list PySem.F.slot_list_append PySem.F.type_list_append mt_append (pv 13) (pa_cons (pe_defK (E := E0) Z.kWeight (hr.mono (by decide)) (by rfl) pass0
          (pk_cons (pe_tup (pa_cons pe_int (pa_cons pe_int pa_nil))) (pk_cons (pe_tup (pa_cons (pe_tup (pa_cons (pe_tup (pa_cons pe_int (pa_cons (pe_tup (pa_cons pe_int (pa_cons pe_int pa_nil))) pa_nil))) pa_nil)) (pa_cons pe_int pa_nil))) (pk_cons (pe_tup (pa_cons pe_int (pa_cons pe_int pa_nil))) pk_nil)))) pa_nil)))
      (pss_one (ps_ret (pe_defG L.like hgd (hr.mono (by decide)) (by rfl) (pa_cons (pv 13) (pa_cons (pe_lst (pa_cons (pe_tup (pa_cons (pe_tup pa_nil) (pa_cons pe_int pa_nil))) (pa_cons (pe_tup (pa_cons (pe_tup pa_nil) (pa_cons pe_int pa_nil))) (pa_cons (pe_tup (pa_cons (pe_tup pa_nil) (pa_cons pe_int pa_nil))) (pa_cons pe_int pa_nil))))) pa_nil)))))))), ?_⟩
    refine ⟨_, rfl, a, ns, rfl, ha, hn, fun st la ca H1 s1 nst nla hst => ?_⟩
    have tb1 : Tabs T H1 := tg.ext s1
    clear s1 nst nla tg ha hn
    refine ⟨3, rfl, by decide, by decide, ?_⟩
    refine for_range (fun i σ H' => ∃ (m : Nat) (x2 x3 x4 x5 x6 x7 x8 x9 x10 x11 x12 : Option V), StH st la ca m H' ∧ Tabs T H' ∧ m ≤ 80 * i ∧ σ = [some (.ref a), some (.ref st), x2, x3, x4, x5, x6, x7, x8, x9, x10, x11, x12, none]) ?_ ?_ ?_
    · exact ⟨0, none, none, none, none, none, none, none, none, none, none, none, hst, tb1, by omega, rfl⟩
    · rintro i σ H2 hi ⟨m, x2, x3, x4, x5, x6, x7, x8, x9, x10, x11, x12, S2, tb2, hm, rfl⟩
      have hi3 : i < 3 := hi
      refine ⟨_, rfl, st, la, ca, m, rfl, S2, by omega, tb2, fun v ss n3 H3 sm hn3 g3 S3 hv => ?_⟩
      refine ⟨_, rfl, _, rfl, st, la, ca, n3, v, ss, rfl, S3, by omega, hv, sm, g3.tb, fun sv ts n4 H4 ok bg hn4 g4 S4 hsv => ?_⟩
      have hv4 := g4.it S3 hv (it_nats (k := 0) ss)
      refine ⟨_, rfl, _, rfl, _, rfl, st, la, ca, n4, sv, v, ss, ts, rfl, S4, by omega, hsv, hv4, sm, ok, bg, g4.tb, fun b n5 H5 hb hn5 g5 S5 => ?_⟩
      have hv5 := g5.it S4 hv4 (it_nats (k := 0) ss)
      have hsv5 := g5.it S4 hsv (it_trms (k := 0) ts)
      refine ⟨_, rfl, _, rfl, _, rfl, v, sv, ss, ts, b, rfl, hv5, hsv5, sm, ok, bg, hb, g5.tb, fun H6 g6 => ⟨_, rfl, ?_⟩⟩
      have hv6 := g6.rep hv5
      have hsv6 := g6.rep hsv5
      have S6 := S5.ext g6.ext
      refine ⟨_, rfl, _, rfl, _, rfl, st, la, ca, n5, sv, ss, ts, b, rfl, S6, by omega, hsv6, sm, ok, g6.tb, fun mv ds n7 H7 dl db hn7 g7 S7 hmv => ?_⟩
      have hv7 := g7.it S6 hv6 (it_nats (k := 0) ss)
      have hsv7 := g7.it S6 hsv6 (it_trms (k := 0) ts)
      obtain ⟨oa, ov, rfl, ho, hov⟩ := repSm hmv
      refine ⟨oa, _, rfl, ho, rfl, _, _, rfl, _, _, rfl, rfl, ?_⟩
      have ok7 := mvd_ok dl ok
      have s4 := sms_form sm ok bg (by decide) (by omega : b.natAbs ≤ 10 ^ 23)
      refine ⟨_, rfl, _, rfl, _, rfl, v, ov, ss, mvd ts ds, b + ds.sum, rfl, hv7, hov, sm.ok, ok7, g7.tb, fun f1 H8 g8 hf1 => ?_⟩
      rw [form_moved b dl ok] at hf1
      have hv8 := g8.rep hv7
      have hsv8 := g8.rep hsv7
      refine ⟨_, rfl, _, rfl, _, rfl, v, sv, ss, ts, b, rfl, hv8, hsv8, sm.ok, ok, g8.tb, fun f2 H9 g9 hf2 => ?_⟩
      refine ⟨f1, f2, dSm (formOf ts b), 20000, 4, rfl, g9.rep hf1, hf2, s4.shw, by decide, by decide, _, rfl, ?_⟩
      have hv9 := g9.rep hv8
      have hsv9 := g9.rep hsv8
      have hov9 := (g8.trans g9).rep hov
      refine ⟨_, rfl, _, rfl, _, rfl, v, sv, ss, ts, b, rfl, hv9, hsv9, sm.ok, ok, g9.tb, fun nv H10 g10 hnv => ?_⟩
      have hv10 := g10.rep hv9
      have hsv10 := g10.rep hsv9
      have hov10 := g10.rep hov9
      have S10 := S7.ext ((g8.trans g9).trans g10).ext
      have hm10 : n7 ≤ 80 * i + 40 := by omega
      have tb10 := g10.tb
      clear hf1 hf2 g8 g9 g10 hv9 hsv9 hov9 hv8 hsv8 hov hv7 hsv7 ho hmv g7 hv6 hsv6 g6 hv5 hsv5 g5 hsv hv4 g4 hv g3 S3 S4 S5 S6 S7 S2 tb2 hm
      refine ⟨_, rfl, st, la, ca, n7, 2, rfl, S10, by omega, by decide, by decide, fun d H11 d0 d1 sd S11 => ⟨rfl, _, rfl, ?_⟩⟩
      have g11 := Gs.drew tb10 S10 sd
      have hv11 := g11.it S10 hv10 (it_nats (k := 0) ss)
      have hsv11 := g11.it S10 hsv10 (it_trms (k := 0) ts)
      have hov11 := g11.it S10 hov10 (it_trms (k := 0) _)
      have hnv11 := g11.it S10 hnv (it_sum (k := 0) _)
      have tb11 := g11.tb
      clear g11 hv10 hsv10 hov10 hnv tb10 S10 sd
      refine joinIf (fun σ H => ∃ (us : List Trm) (c : Int) (ov : V) (n : Nat), TmOk ss 0 us ∧ StH st la ca n H ∧ n ≤ 80 * i + 80 ∧ Tabs T H ∧ Rep K H v (dN ss) ∧ Rep K H sv (dTs ts) ∧ Rep K H ov (dTs us) ∧ Rep K H nv (dSm (formOf ts b)) ∧
        σ = [some (.ref a), some (.ref st), some (.int (0 + (i : Nat))), some v, some sv, some (.int b), some ov, some (.int c), some nv, x9, x10, x11, x12, none]) ?_ ?_ ?_
      · rintro σ H ⟨us, c, ov, n, oku, S12, hn12, tb12, hv12, hsv12, hov12, hnv12, rfl⟩
        refine ⟨_, rfl, _, rfl, _, rfl, v, ov, ss, us, c, rfl, hv12, hov12, sm.ok, oku, tb12, fun tv H13 g13 htv => ?_⟩
        have done : ∀ {H : Hp} {y10 y11 y12 : Option V}, Gq T H13 H → ∃ (m : Nat) (x2 x3 x4 x5 x6 x7 x8 x9 x10 x11 x12 : Option V), StH st la ca m H ∧ Tabs T H ∧ m ≤ 80 * (i + 1) ∧ [some (.ref a), some (.ref st), some (.int (0 + (i : Nat))), some v, some sv, some (.int b), some ov, some (.int c), some nv, some tv, y10, y11, y12, none] = [some (.ref a), some (.ref st), x2, x3, x4, x5, x6, x7, x8, x9, x10, x11, x12, none] :=
          fun g => ⟨n, _, _, _, _, _, _, _, _, _, _, _, S12.ext (g13.trans g).ext, g.tb, by omega, rfl⟩
        obtain ⟨na, nt, rfl, hns, hnt⟩ := repSm (g13.rep hnv12)
        obtain ⟨ta, tt, rfl, hts, htt⟩ := repSm htv
        refine ⟨_, rfl, na, _, _, _, rfl, rfl, hns, atI_nat (j := 1) rfl, _, _, rfl, rfl, _, rfl, ?_⟩
        by_cases n1 : (formOf ts b).2 > 0
        · refine ifY (decide_eq_true n1) ?_
          refine ⟨_, rfl, ta, _, _, _, rfl, rfl, hts, atI_nat (j := 1) rfl, _, _, rfl, rfl, _, rfl, ?_⟩
          by_cases n2 : (formOf us c).2 > 0
          · refine ifY (decide_eq_true n2) ?_
            refine ⟨_, rfl, v, ss, rfl, g13.rep hv12, sm, fun l fs H14 s14 hl rf => ?_⟩
            have g14 := (Gq.refl g13.tb).same s14
            refine ⟨l, rfl, ⟨_, SqL.of hl⟩, for_list (K := K) (a := l) (xs := fs) (fun j σ H' => ∃ (y11 y12 : Option V), Gq T H14 H' ∧ σ = [some (.ref a), some (.ref st), some (.int (0 + (i : Nat))), some v, some sv, some (.int b), some ov, some (.int c), some (.ref na), some (.ref ta),
              some (.bl (!(((rowsOf ss).take j).all fun r => decide (wt r ts - b - wt r us + c = 0)))), y11, y12, none]) ?_ ?_ ?_ ?_⟩
            · exact ⟨x11, x12, Gq.refl g14.tb, by simp⟩
            · rintro j σ H' _ ⟨_, _, g, _⟩
              exact SqL.of (g.ext _ _ hl fun ps z => by cases z)
            · rintro j xr σ H15 hj ⟨_, _, g15, rfl⟩
              obtain ⟨r, er, ro, rr⟩ := row_of rf hj
              have g16 := (g13.trans g14).trans g15
              have tl := len_tm ok (Nat.zero_le _)
              have tl' := len_tm oku (Nat.zero_le _)
              have sl := sm.len
              refine ⟨_, rfl, _, rfl, sv, xr, ss, ts, r, rfl, g16.rep hsv12, g15.rep rr, ok, by omega, ro, fun H16 s16 => ⟨_, rfl, _, _, rfl, rfl, ?_⟩⟩
              have g17 := g15.same s16
              refine ⟨_, rfl, _, rfl, ov, xr, ss, us, r, rfl, ((g13.trans g14).trans g17).rep hov12, g17.rep rr, oku, by omega, ro, fun H17 s17 => ⟨_, _, rfl, rfl, _, rfl, _, _, rfl, rfl, ?_⟩⟩
              have g18 := g17.same s17
              refine ⟨_, rfl, _, rfl, ?_⟩
              have step : (((rowsOf ss).take (j + 1)).all fun r => decide (wt r ts - b - wt r us + c = 0)) = ((((rowsOf ss).take j).all fun r => decide (wt r ts - b - wt r us + c = 0)) && decide (wt r ts - b - wt r us + c = 0)) := by
                rw [take_snoc er, List.all_append]
                simp
              have nxt : ∀ {z : Bool}, (!(((rowsOf ss).take (j + 1)).all fun r => decide (wt r ts - b - wt r us + c = 0))) = z → ∃ (y11 y12 : Option V), Gq T H14 H17 ∧ [some (.ref a), some (.ref st), some (.int (0 + (i : Nat))), some v, some sv, some (.int b), some ov, some (.int c), some (.ref na), some (.ref ta),
                  some (.bl z), some xr, some (.int (wt r ts - b - wt r us + c)), none] = [some (.ref a), some (.ref st), some (.int (0 + (i : Nat))), some v, some sv, some (.int b), some ov, some (.int c), some (.ref na), some (.ref ta),
                  some (.bl (!(((rowsOf ss).take (j + 1)).all fun r => decide (wt r ts - b - wt r us + c = 0)))), y11, y12, none] := fun e => ⟨_, _, g18, by rw [e]⟩
              cases cc : (((rowsOf ss).take j).all fun r => decide (wt r ts - b - wt r us + c = 0)) with
              | false =>
                rw [cc] at step
                exact nxt (by rw [step]; rfl)
              | true =>
                rw [cc] at step
                refine ⟨_, rfl, rfl, nxt ?_⟩
                rw [step]
                show (!(true && _)) = (!decide (V.int _ = V.int 0))
                simp
            · rintro σ H15 ⟨_, _, g15, rfl⟩
              have lf : fs.length = (rowsOf ss).length := by rw [rf.length, List.length_map]
              have g35 := g14.trans g15
              refine ⟨_, rfl, _, rfl, dSm (formOf ts b), dSm (formOf us c), dp_of ((g13.trans g35).rep hnv12), dp_of (g35.rep htv), (it_sum (k := 0) _).shaped (by decide), (it_sum (k := 0) _).shaped (by decide), _, rfl, rfl, _, rfl, ?_⟩
              rw [lf, List.take_length]
              have ai := apart_iff (fun s hs => (sm.all s hs).1) ok oku n1 n2
              have ev := (it_sum (k := 0) (formOf ts b)).eqv (dSm (formOf us c)) 4 (it_sum (k := 0) _)
              refine ifN ?_ (done g35)
              refine decide_eq_false fun z => ?_
              have z := V.bl.inj z
              cases e : ((rowsOf ss).all fun r => decide (wt r ts - b - wt r us + c = 0)) with
              | true =>
                rw [e] at z
                rw [ev.mpr (by rw [ai.mp e])] at z
                cases z
              | false =>
                rw [e] at z
                rw [ai.mpr (dSm_inj (ev.mp z))] at e
                cases e
          · exact ifN (decide_eq_false n2) (done (Gq.refl g13.tb))
        · exact ifN (decide_eq_false n1) (done (Gq.refl g13.tb))
      · intro _ rest
        refine ⟨_, rfl, _, rfl, st, la, ca, _, v, ss, rfl, S11, by omega, hv11, sm, tb11, fun ov2 us n12 H12 oku bgu hn12 g12 S12 hov12 => ?_⟩
        have hv12 := g12.it S11 hv11 (it_nats (k := 0) ss)
        refine ⟨_, rfl, _, rfl, _, rfl, st, la, ca, n12, ov2, v, ss, us, rfl, S12, by omega, hov12, hv12, sm, oku, bgu, g12.tb, fun c n13 H13 hc hn13 g13 S13 => ?_⟩
        exact rest _ _ ⟨us, c, ov2, n13, oku, S13, by omega, g13.tb, g13.it S12 hv12 (it_nats (k := 0) ss), g13.it S12 (g12.it S11 hsv11 (it_trms (k := 0) ts)) (it_trms (k := 0) ts), g13.it S12 hov12 (it_trms (k := 0) us), g13.it S12 (g12.it S11 hnv11 (it_sum (k := 0) _)) (it_sum (k := 0) _), rfl⟩
      · intro _ rest
        exact rest _ _ ⟨mvd ts ds, b + ds.sum, ov, _, ok7, S11, by omega, tb11, hv11, hsv11, hov11, hnv11, rfl⟩
    · rintro σ H2 ⟨m, x2, x3, x4, x5, x6, x7, x8, x9, x10, x11, x12, S2, tb2, hm, rfl⟩
      clear hm S2 hst tb1 H1 hr hgd
      have g0 := Gq.refl tb2
      -- form_of(bound=3, terms=(), sizes=())
      refine ⟨by show 0 ≤ sizeLine; decide, fun p1 k1 => ⟨by show 0 ≤ sizeLine; decide, fun p2 k2 => ?_⟩⟩
      have g1 := g0.new (o := .tup []) k1
      have r1 := rep_tnew (K := K) k1 .nil
      have g2 := g1.new (o := .tup []) k2
      have r2 := rep_tnew (K := K) k2 .nil
      have r1 := r1.ext (ext_new (o := .tup []) k2)
      refine ⟨rfl, .ref p2, .ref p1, [], [], 3, rfl, r2, r1, ⟨by decide, (fun s hs => by cases hs)⟩, True.intro, g2.tb, fun f1 H3 g3 hf1 => ?_⟩
      have tb3 := g3.tb
      clear g3 g2 g1 r2 r1 k1 k2 g0
      -- form_of((2,), ((0, (-1, 2)),), -1)
      refine ⟨by show 1 ≤ sizeLine; decide, fun p1 k1 => ⟨_, rfl, by show 2 ≤ sizeLine; decide, fun p2 k2 => ⟨by show 2 ≤ sizeLine; decide, fun p3 k3 => ⟨by show 1 ≤ sizeLine; decide, fun p4 k4 => ⟨_, rfl, ?_⟩⟩⟩⟩⟩
      have g1 := (Gq.refl tb3).new (o := .tup [.int 2]) k1
      have g2 := g1.new (o := .tup [.int (-1), .int 2]) k2
      have g3 := g2.new (o := .tup [.int 0, .ref p2]) k3
      have g4 := g3.new (o := .tup [.ref p3]) k4
      have r1 : Rep K _ (.ref p1) (dN [2]) := ((((rep_tnew (K := K) k1 (.cons (.int 2) .nil)).ext (ext_new (o := .tup [.int (-1), .int 2]) k2)).ext (ext_new (o := .tup [.int 0, .ref p2]) k3))).ext (ext_new (o := .tup [.ref p3]) k4)
      have r4 : Rep K _ (.ref p4) (dTs [(0, [-1, 2])]) := rep_tnew (K := K) k4 (.cons (rep_tnew (K := K) k3 (.cons (.int 0) (.cons (rep_tnew (K := K) k2 (.cons (.int (-1)) (.cons (.int 2) .nil))) .nil))) .nil)
      refine ⟨.ref p1, .ref p4, [2], [(0, [-1, 2])], -1, rfl, r1, r4, ⟨by decide, by decide⟩, ⟨by decide, ⟨2, rfl, rfl, by decide⟩, True.intro⟩, g4.tb, fun f2 H5 g5 hf2 => ?_⟩
      have e2 : formOf [(0, [-1, 2])] (-1) = ([], 0) := by decide +kernel
      rw [e2] at hf2
      have hf1 := (g4.trans g5).rep hf1
      have tb5 := g5.tb
      clear r1 r4 g5 g4 g3 g2 g1 k1 k2 k3 k4
      clear tb3
      -- form_of((2,), ((0, (4, 4)),), 5)
      refine ⟨by show 1 ≤ sizeLine; decide, fun p1 k1 => ⟨by show 2 ≤ sizeLine; decide, fun p2 k2 => ⟨by show 2 ≤ sizeLine; decide, fun p3 k3 => ⟨by show 1 ≤ sizeLine; decide, fun p4 k4 => ?_⟩⟩⟩⟩
      have g1 := (Gq.refl tb5).new (o := .tup [.int 2]) k1
      have g2 := g1.new (o := .tup [.int 4, .int 4]) k2
      have g3 := g2.new (o := .tup [.int 0, .ref p2]) k3
      have g4 := g3.new (o := .tup [.ref p3]) k4
      have r1 : Rep K _ (.ref p1) (dN [2]) := ((((rep_tnew (K := K) k1 (.cons (.int 2) .nil)).ext (ext_new (o := .tup [.int 4, .int 4]) k2)).ext (ext_new (o := .tup [.int 0, .ref p2]) k3))).ext (ext_new (o := .tup [.ref p3]) k4)
      have r4 : Rep K _ (.ref p4) (dTs [(0, [4, 4])]) := rep_tnew (K := K) k4 (.cons (rep_tnew (K := K) k3 (.cons (.int 0) (.cons (rep_tnew (K := K) k2 (.cons (.int 4) (.cons (.int 4) .nil))) .nil))) .nil)
      refine ⟨.ref p1, .ref p4, [2], [(0, [4, 4])], 5, rfl, r1, r4, ⟨by decide, by decide⟩, ⟨by decide, ⟨2, rfl, rfl, by decide⟩, True.intro⟩, g4.tb, fun f3 H7 g7 hf3 => ?_⟩
      have e3 : formOf [(0, [4, 4])] 5 = ([], 1) := by decide +kernel
      rw [e3] at hf3
      have hf1 := (g4.trans g7).rep hf1
      have hf2 := (g4.trans g7).rep hf2
      have tb7 := g7.tb
      clear r1 r4 g7 g4 g3 g2 g1 k1 k2 k3 k4
      clear tb5
      refine ⟨by show 3 ≤ sizeLine; decide, fun l hl => ?_⟩
      have hl8 := upd_same (H := H7) (a := l) (o := .lst [f1, f2, f3])
      have g8 := (Gq.refl tb7).new (o := .lst [f1, f2, f3]) hl
      have hf1 := g8.rep hf1
      have hf2 := g8.rep hf2
      have hf3 := g8.rep hf3
      have tb8 := g8.tb
      show tSeq _ _ _ _ (upd H7 l (.lst [f1, f2, f3]))
      generalize upd H7 l (.lst [f1, f2, f3]) = H8 at hl8 hf1 hf2 hf3 tb8 ⊢
      clear g8 hl tb7
      -- weight_of(row=(1, 0), one=(((0, (0, 2)),), 1), sizes=(2, 1))
      refine ⟨_, rfl, .inl ⟨rfl, _, SqL.of hl8⟩, ?_⟩
      refine ⟨by show 2 ≤ sizeLine; decide, fun p1 k1 => ⟨by show 2 ≤ sizeLine; decide, fun p2 k2 => ⟨by show 2 ≤ sizeLine; decide, fun p3 k3 => ⟨by show 1 ≤ sizeLine; decide, fun p4 k4 => ⟨by show 2 ≤ sizeLine; decide, fun p5 k5 => ⟨by show 2 ≤ sizeLine; decide, fun p6 k6 => ?_⟩⟩⟩⟩⟩⟩
      have g1 := (Gq.refl tb8).new (o := .tup [.int 1, .int 0]) k1
      have g2 := g1.new (o := .tup [.int 0, .int 2]) k2
      have g3 := g2.new (o := .tup [.int 0, .ref p2]) k3
      have g4 := g3.new (o := .tup [.ref p3]) k4
      have g5 := g4.new (o := .tup [.ref p4, .int 1]) k5
      have g6 := g5.new (o := .tup [.int 2, .int 1]) k6
      have r1 : Rep K _ (.ref p1) (dN [1, 0]) := (((((rep_tnew (K := K) k1 (.cons (.int 1) (.cons (.int 0) .nil))).ext (ext_new (o := .tup [.int 0, .int 2]) k2)).ext (ext_new (o := .tup [.int 0, .ref p2]) k3)).ext (ext_new (o := .tup [.ref p3]) k4)).ext (ext_new (o := .tup [.ref p4, .int 1]) k5)).ext (ext_new (o := .tup [.int 2, .int 1]) k6)
      have r5 : Rep K _ (.ref p5) (dSm ([(0, [0, 2])], 1)) := (rep_tnew (K := K) k5 (.cons (rep_tnew (K := K) k4 (.cons (rep_tnew (K := K) k3 (.cons (.int 0) (.cons (rep_tnew (K := K) k2 (.cons (.int 0) (.cons (.int 2) .nil))) .nil))) .nil)) (.cons (.int 1) .nil))).ext (ext_new (o := .tup [.int 2, .int 1]) k6)
      have r6 : Rep K _ (.ref p6) (dN [2, 1]) := rep_tnew (K := K) k6 (.cons (.int 2) (.cons (.int 1) .nil))
      refine ⟨rfl, .ref p6, .ref p5, .ref p1, [2, 1], ([(0, [0, 2])], 1), [1, 0], rfl, r6, r5, r1, ⟨by decide, by decide⟩, ⟨⟨by decide, ⟨2, rfl, rfl, by decide⟩, True.intro⟩, by decide, fun z => absurd z (by decide), by decide⟩, ⟨rfl, ?_⟩, g6.tb, fun H9 g9 => ?_⟩
      · intro i u e
        match i, e with
        | 0, e => cases e; exact ⟨2, rfl, by decide⟩
        | 1, e => cases e; exact ⟨1, rfl, by decide⟩
        | i + 2, e => simp at e
      have g69 := g6.trans g9
      have hl9 := g69.ext _ _ hl8 fun ps z => by cases z
      have hf1 := g69.rep hf1
      have hf2 := g69.rep hf2
      have hf3 := g69.rep hf3
      clear r1 r5 r6 g69 g9 g6 g5 g4 g3 g2 g1 k1 k2 k3 k4 k5 k6
      refine ⟨l, _, .int (wt [1, 0] [(0, [0, 2])]), rfl, rfl, hl9, by show 3 < sizeLine; decide, ?_⟩
      have ew : wt [1, 0] [(0, [0, 2])] = 2 := by decide +kernel
      rw [ew]
      have hl10 := upd_same (H := H9) (a := l) (o := .lst [f1, f2, f3, .int 2])
      have hf1 := rep_wr (o := .lst [f1, f2, f3, .int 2]) hl9 hf1 (it_sum (k := 0) _).noL
      have hf2 := rep_wr (o := .lst [f1, f2, f3, .int 2]) hl9 hf2 (it_sum (k := 0) _).noL
      have hf3 := rep_wr (o := .lst [f1, f2, f3, .int 2]) hl9 hf3 (it_sum (k := 0) _).noL
      have eL : [f1, f2, f3] ++ [V.int 2] = [f1, f2, f3, .int 2] := rfl
      rw [eL]
      generalize upd H9 l (.lst [f1, f2, f3, .int 2]) = HA at hl10 hf1 hf2 hf3 ⊢
      refine ⟨_, rfl, by show 0 ≤ sizeLine; decide, fun p1 k1 => ⟨by show 2 ≤ sizeLine; decide, fun p2 k2 => ⟨by show 0 ≤ sizeLine; decide, fun p3 k3 => ⟨by show 2 ≤ sizeLine; decide, fun p4 k4 => ⟨by show 0 ≤ sizeLine; decide, fun p5 k5 => ⟨by show 2 ≤ sizeLine; decide, fun p6 k6 => ⟨by show 4 ≤ sizeLine; decide, fun l2 k7 => ?_⟩⟩⟩⟩⟩⟩⟩
      have x1 := ext_new (o := .tup []) k1
      have x2 := ext_new (o := .tup [.ref p1, .int 3]) k2
      have x3 := ext_new (o := .tup []) k3
      have x4 := ext_new (o := .tup [.ref p3, .int 0]) k4
      have x5 := ext_new (o := .tup []) k5
      have x6 := ext_new (o := .tup [.ref p5, .int 1]) k6
      have x7 := ext_new (o := .lst [.ref p2, .ref p4, .ref p6, .int 2]) k7
      have xx := (((((x1.trans x2).trans x3).trans x4).trans x5).trans x6).trans x7
      have d1 : Rep K _ (.ref p2) (dSm ([], 3)) := (rep_tnew (K := K) k2 (.cons (rep_tnew (K := K) k1 .nil) (.cons (.int 3) .nil))).ext ((((x3.trans x4).trans x5).trans x6).trans x7)
      have d2 : Rep K _ (.ref p4) (dSm ([], 0)) := (rep_tnew (K := K) k4 (.cons (rep_tnew (K := K) k3 .nil) (.cons (.int 0) .nil))).ext ((x5.trans x6).trans x7)
      have d3 : Rep K _ (.ref p6) (dSm ([], 1)) := (rep_tnew (K := K) k6 (.cons (rep_tnew (K := K) k5 .nil) (.cons (.int 1) .nil))).ext x7
      refine ⟨.ref l, .ref l2, .list [dSm ([], 3), dSm ([], 0), dSm ([], 1), .int 2], 3000, 5, rfl, .lst (SqL.of (xx _ _ hl10 fun ps z => by cases z)) (.cons (hf1.ext xx) (.cons (hf2.ext xx) (.cons (hf3.ext xx) (.cons (.int 2) .nil)))), .lst (SqL.of upd_same) (.cons d1 (.cons d2 (.cons d3 (.cons (.int 2) .nil)))), shw_last, by decide, by decide, q _⟩
end
end K2
set_option Elab.async false
set_option linter.all false
set_option maxRecDepth 100000
set_option maxHeartbeats 4000000
/-! KitZ: the end of a law whose promise asks that no repr is under way. -/
namespace BK
open PySem PySem.Spec PyProof.Rows L2 LamX
/-- what the head leaves: cs, the code objects and their empty tables; the script's list at a -/
structure LawIn (K : PySem.W.Frag) (mg mb : Str → Option Value) (cs : List (Addr × Addr)) (s : Shared) (a : Addr) (vs : List Value) (ns : List Int) : Prop where
  kin : K.In s.heap
  glob : s.heap.Ns mainGlobals mg
  blt : s.heap.Ns builtinsNs mb
  same : ∀ x : Str, x ≠ "__name__" → mb x = bootBuiltins x
  lim : s.heap.NoLimit
  gens : s.gens = #[]
  tab : ∀ p ∈ cs, s.heap.get? p.2 = some { cls := .none, data := .fields #[] }
  notK : ∀ p ∈ cs, K.lookup p.2 = none
  code : ∀ p ∈ cs, PySem.W.CodeHd s.heap p.1 p.2
  main : ∃ (bm : Addr) (ob : Obj), mg "__builtins__" = some (.ref bm) ∧ bm ≠ builtinsNs ∧ s.heap.get? bm = some ob ∧ ob.cls = .type "module" ∧ ob.dict = some builtinsNs ∧ ob.data = .plain
  arg : s.heap.get? a = some { cls := .type "list", data := .seq vs.toArray }
  whole : IntsAre vs ns
  small : ns.length ≤ sizeLine
def script (vs : List Value) (ns : List Int) : HO := .frz { cls := .type "list", data := .seq vs.toArray } (.lst (ns.map V.int))
/-- tracked: the tables, and the script's list unless the written part has it -/
def lawH (K : PySem.W.Frag) (cs : List (Addr × Addr)) (a : Addr) (vs : List Value) (ns : List Int) : Hp := fun b =>
  if b ∈ cs.map (·.2) then some (.tbl #[]) else if b = a then (if (K.lookup a).isSome = true then none else some (script vs ns)) else none
section
variable {K : PySem.W.Frag} {mg mb : Str → Option Value} {cs : List (Addr × Addr)} {s : Shared} {a : Addr} {vs : List Value} {ns : List Int} (L : LawIn K mg mb cs s a vs ns)
theorem lawH_some {b : Addr} {u : HO} (h : lawH K cs a vs ns b = some u) : (b ∈ cs.map (·.2) ∧ u = .tbl #[]) ∨ (b = a ∧ b ∉ cs.map (·.2) ∧ K.lookup a = none ∧ u = script vs ns) := by
  unfold lawH at h
  split at h
  · exact .inl ⟨‹_›, (Option.some.inj h).symm⟩
  · split at h
    · split at h
      · cases h
      · rename_i n1 e n2
        refine .inr ⟨e, n1, ?_, (Option.some.inj h).symm⟩
        cases q : K.lookup a with
        | none => rfl
        | some o => rw [q] at n2; exact absurd rfl n2
    · cases h
theorem lawH_tab {p : Addr × Addr} (hp : p ∈ cs) : lawH K cs a vs ns p.2 = some (.tbl #[]) := if_pos (List.mem_map.mpr ⟨p, hp, rfl⟩)
include L
theorem LawIn.table {b : Addr} (hb : b ∈ cs.map (·.2)) : s.heap.get? b = some { cls := .none, data := .fields #[] } := by
  obtain ⟨p, hp, rfl⟩ := List.mem_map.mp hb
  exact L.tab p hp
theorem LawIn.away : a ∉ cs.map (·.2) := fun z => by
  have e := L.table z
  rw [L.arg] at e
  have d : Data.seq vs.toArray _ = Data.fields #[] := congrArg Obj.data (Option.some.inj e)
  cases d
/-- what is no sequence and no empty table is not tracked -/
theorem LawIn.plain {b : Addr} {o : Obj} (e : s.heap.get? b = some o) (h1 : ∀ us n, o.data ≠ .seq us n) (h2 : o.data ≠ .fields #[]) : lawH K cs a vs ns b = none := by
  cases q : lawH K cs a vs ns b with
  | none => rfl
  | some u =>
    rcases lawH_some q with ⟨hb, _⟩ | ⟨rfl, _⟩
    · rw [L.table hb] at e
      cases e
      exact absurd rfl h2
    · rw [L.arg] at e
      cases e
      exact absurd rfl (h1 _ _)
theorem LawIn.space {b : Addr} {m : Str → Option Value} (h : s.heap.Ns b m) : (hidT s.heap (lawH K cs a vs ns)).Ns b m := by
  obtain ⟨o, es, ep, e, d, r⟩ := h
  refine ⟨o, es, ep, hidT_get e (L.plain e (fun us n z => ?_) fun z => ?_), d, r⟩ <;> (rw [d] at z; cases z)
theorem LawIn.hidK : K.In (hidT s.heap (lawH K cs a vs ns)) := fun b o e => by
  refine hidT_get (L.kin b o e) ?_
  cases q : lawH K cs a vs ns b with
  | none => rfl
  | some u =>
    rcases lawH_some q with ⟨hb, _⟩ | ⟨rfl, _, n, _⟩
    · obtain ⟨p, hp, rfl⟩ := List.mem_map.mp hb
      rw [L.notK p hp] at e
      cases e
    · rw [n] at e
      cases e
theorem LawIn.mod : L2.Mod K mg (hidT s.heap (lawH K cs a vs ns)) := by
  obtain ⟨mc, h1, h2⟩ := L.lim
  exact ⟨L.hidK, L.space L.glob, ⟨mb, L.space L.blt, L.same⟩, mc, L.space h1, h2⟩
theorem LawIn.tabB {p : Addr × Addr} (hp : p ∈ cs) : TabB (hidT s.heap (lawH K cs a vs ns)) mg p.1 p.2 := by
  have tp := L.tab p hp
  obtain ⟨og, eg, epg, g1, g2, _⟩ := L.glob
  constructor
  · obtain ⟨o, us, file, tf, flags, tg, inF, text, tt, e1, r1, r2, r3, r⟩ := L.code p hp
    refine ⟨o, us, file, tf, flags, tg, inF, text, tt, hidT_get e1 (L.plain e1 (fun us n z => ?_) fun z => ?_), r1, r2, r3, r⟩
    · rw [r2] at z
      cases z
    · rw [r2] at z
      cases z
      simp at r3
  · obtain ⟨bm, ob, b1, b2, b3, b4, b5, b6⟩ := L.main
    refine ⟨bm, ob, b1, b2, fun z => ?_, fun z => ?_, hidT_get b3 (L.plain b3 (fun us n z => ?_) fun z => ?_), b4, b5, b6⟩
    · rw [z, g1] at b3
      cases b3
      rw [g2] at b6
      cases b6
    · rw [z, tp] at b3
      cases b3
      cases b6
    · rw [b6] at z
      cases z
    · rw [b6] at z
      cases z
  · intro z
    rw [z, tp] at g1
    cases g1
    cases g2
theorem LawIn.hok {P : Program} {w : World} : HOk P w (lawH K cs a vs ns) s.heap := fun b u h => by
  rcases lawH_some h with ⟨hb, rfl⟩ | ⟨rfl, _, _, rfl⟩
  · exact L.table hb
  · exact ⟨L.arg, by rw [List.length_map]; exact L.small, vs, _, vals_ints L.whole, L.arg⟩
theorem LawIn.sql : SqL K (lawH K cs a vs ns) a (ns.map V.int) := by
  have rv := vals_ints L.whole
  cases q : K.lookup a with
  | some o =>
    have e := L.kin a o q
    rw [L.arg] at e
    cases e
    exact .inr ⟨_, vs.toArray, _, q, rfl, rfl, rfl, by rw [List.size_toArray, L.whole.length]; exact L.small, by simpa using rv⟩
  | none =>
    refine .inl (.inr ⟨{ cls := .type "list", data := .seq vs.toArray }, ?_⟩)
    show (if a ∈ cs.map (·.2) then _ else _) = _
    rw [if_neg L.away, if_pos rfl, q]
    rfl
theorem LawIn.env {P : Program} {w : World} : Env0 P w K mg (hidT s.heap (lawH K cs a vs ns)) callerA [] s (lawH K cs a vs ns) where
  frames := rfl
  mod := L.mod
  bs := fun b o e => of_hidT e
  bsz := Nat.le_of_eq (hidT_size _ _)
  funs := trivial
  frf := fun b hb => absurd (show b ∈ ([] : List Addr) from hb) (by simp)
  hok := L.hok
  bare := .of_eq L.gens
/-- what stood stands, but for the tables, which may have grown -/
theorem LawIn.old {P : Program} {w : World} {s' : Shared} {H' : Hp} (un : Un (frs []) [] (lawH K cs a vs ns) H' s.heap s'.heap) (ok : HOk P w H' s'.heap) : OldK s.heap s'.heap := by
  have rest : ∀ b o, b ∉ cs.map (·.2) → s.heap.get? b = some o → s'.heap.get? b = some o := fun b o nb e => by
    cases q : lawH K cs a vs ns b with
    | none => exact un.keep b o e q (fun z => by cases (show b ∈ ([] : List Addr) from z)) (by simp)
    | some u =>
      rcases lawH_some q with ⟨hb, _⟩ | ⟨rfl, _, _, rfl⟩
      · exact absurd hb nb
      · obtain ⟨e1, _⟩ := L.hok (P := P) (w := w) b _ q
        obtain ⟨e2, _⟩ := ok b _ (un.frzs b _ _ q)
        rw [e] at e1
        cases e1
        exact e2
  have more : ∀ p ∈ cs, ∃ xs : Array Value, s'.heap.get? p.2 = some { cls := .none, data := .fields xs } := fun p hp => by
    obtain ⟨m, z⟩ := un.tbls p.2 #[] (lawH_tab hp)
    exact ⟨_, ok p.2 _ z⟩
  constructor
  · intro b o e
    by_cases hb : b ∈ cs.map (·.2)
    · obtain ⟨p, hp, rfl⟩ := List.mem_map.mp hb
      obtain ⟨xs, hx⟩ := more p hp
      rw [L.tab p hp] at e
      cases e
      exact .inr (.inl ⟨((L.code p hp).tab (L.tab p hp)).isCodeTable, rfl, #[], xs, rfl, by rw [Array.empty_append]; exact hx⟩)
    · exact .inl (rest b o hb e)
  · intro b o e
    by_cases hb : b ∈ cs.map (·.2)
    · obtain ⟨p, hp, rfl⟩ := List.mem_map.mp hb
      obtain ⟨xs, hx⟩ := more p hp
      exact ⟨_, hx⟩
    · exact ⟨o, rest b o hb e⟩
theorem LawIn.run {P : Program} {w : World} {k : Nat} {fa : Addr} {fd : FuncData} {x : Str} {sp : Sp} (hr : Room k callerA) (hb : ∀ (s : Shared) (u : Value), BindsTo s fd ⟨[u], []⟩ [(x, u)])
    (F : ∀ base : Heap, L2.Mod K mg base → (∀ p ∈ cs, TabB base mg p.1 p.2) → FnG P w K mg base k fa fd [x] sp) (hsp : ∀ H : Hp, (∀ p ∈ cs, H p.2 = some (.tbl #[])) → SqL K H a (ns.map V.int) → sp [.ref a] H (fun v _ => v = .bl true) E0) :
    codeAny (model P w) callerA (.call (.ref fa) ⟨[.ref a], []⟩) (fun r s' => r = .ok (.ret (.bool true)) ∧ OldK s.heap s'.heap ∧ s'.os = s.os ∧ AllBare s'.gens) s := by
  apply codeAny_mono ((F _ L.mod fun p hp => L.tabB hp).run callerA [] s (lawH K cs a vs ns) ⟨[.ref a], []⟩ [.ref a] [.ref a] _ _ rfl hr L.env (hb s (.ref a)) (.cons rfl .nil) (hsp _ (fun p hp => lawH_tab hp) L.sql))
  intro r s' h
  match r, h with
  | .error _, h => exact (show False from h).elim
  | .ok .next, h => exact (show False from h).elim
  | .ok .brk, h => exact (show False from h).elim
  | .ok .cont, h => exact (show False from h).elim
  | .ok (.ret u), h =>
    obtain ⟨v, H', os, bare, un, ok, rv, q⟩ := h
    obtain rfl : v = .bl true := q
    obtain rfl : u = Value.bool true := rv
    exact ⟨rfl, L.old un ok, os, bare⟩
end
/-- what must be shown of a law's def at the head's heap -/
structure LawOn (l : PySem.W.OpenLaw) (w : World) (K : PySem.W.Frag) (k : Nat) (x : Str) (mg : Str → Option Value) (fa : Addr) (h : Heap) : Prop where
  ex : ∃ (fd : FuncData) (cs : List (Addr × Addr)) (sp : Sp), (∀ p ∈ cs, h.get? p.2 = some { cls := .none, data := .fields #[] }) ∧ (∀ p ∈ cs, K.lookup p.2 = none) ∧ (∀ p ∈ cs, PySem.W.CodeHd h p.1 p.2) ∧ (∀ (s : Shared) (u : Value), BindsTo s fd ⟨[u], []⟩ [(x, u)]) ∧
    (∀ (H : Hp) (a : Addr) (ns : List Int), ns.length ≤ 63 → (∀ p ∈ cs, H p.2 = some (.tbl #[])) → SqL K H a (ns.map V.int) → sp [.ref a] H (fun v _ => v = .bl true) E0) ∧
    ∀ base : Heap, L2.Mod K mg base → (∀ p ∈ cs, TabB base mg p.1 p.2) → FnG l.prog w K mg base k fa fd [x] sp
theorem walk_on {l : PySem.W.OpenLaw} {k : Nat} {q : Program} {loose : List Str} {XP : (Str → Option Value) → Heap → Prop} {YP : World → Heap → Prop} {d : DefRec} {K : Params → PySem.W.Frag} {x : Str}
    (hn : l.most = some 63) (hdf : d.params.defaults = []) (hr : Room k callerA) (hY : ∀ (w : World) (h : Heap), YP w h → (K w.params).In h)
    (F : ∀ (w : World) (mg : Str → Option Value) (fa : Addr) (h : Heap), YP w h → XP mg h → (K w.params).In h → h.Ns mainGlobals mg → (∀ (x : Str) (r : DefRec) (c P : Addr), (recsOf q).find? (fun e => e.name == x) = some r → PySem.W.tabIn (K w.params) x = some (c, P) → PySem.W.CodeHd h c P ∧ h.get? P = some (PySem.W.tabObj #[])) → mg d.name = some (.ref fa) → LawOn l w (K w.params) k x mg fa h) :
    PySem.W.WalkO q loose XP YP l.row.toRowW d [] (fun f vs => PySem.call f vs) := by
  apply Att.attach_callB hn hdf
  intro w s₀ s₁ mg mb fa o pm cd doc a vs ns G Y ho hd hcd hmg hobj hints hlen _ hg
  have KX := hY w _ Y
  obtain ⟨fd, cs, sp, hT, nT, C, hb, hsp, hF⟩ := (F w mg fa _ Y G.X KX G.T.g (fun x r c P hr ht => PySem.W.tab_of G.T KX hr ht) hmg).ex
  have L : LawIn (K w.params) mg mb cs s₁ a vs ns := ⟨KX, G.T.g, G.T.b, G.T.builtins, G.T.nolimit, hg, hT, nT, C, G.T.bmain, hobj, hints, by rw [sizeLine_eq]; omega⟩
  exact L.run hr hb hF fun H hH hS => hsp H a ns hlen hH hS
end BK
set_option Elab.async false
set_option linter.all false
set_option maxRecDepth 100000
set_option maxHeartbeats 4000000
/-! EndS: from what the top leaves to the law's promise. -/
namespace K2
open PySem PySem.Spec PyProof.Rows L2 BK LamX
theorem rel_at : ∀ {zs : List V} {ws : List Value}, Vals zs ws → ∀ i : Nat, RelV (zs.getD i .non) (ws.getD i .none)
  | _, _, .nil, _ => rfl
  | _, _, .cons r _, 0 => r
  | _, _, .cons _ rr, i + 1 => rel_at rr i
/-- how the parameters of a def of the text bind -/
def BindsAll (st : Stmt) (x : Str) (ps : List Str) : Prop := ∀ (kV doc pm : Value) (an : Option Addr) (cdv ct : Value) (us : List Value), us.length = ps.length → bindArgs (PySem.W.fnOf x x (defArgs st) (defBody st) (defScope st) .none kV doc pm an cdv ct) ⟨us, []⟩ = pure (ps.zip us)
section
variable {K : PySem.W.Frag} {h : Heap} {mg : Str → Option Value}
theorem at_of {x : Str} {st : Stmt} {ps : List Str} {f : Addr} {oc kV dc pm cd ct : Value} {od an : Option Addr} {sl : Array (Option Value)} (X : K.In h) (G : h.Ns mainGlobals mg) (a : PySem.W.nsIn K mainGlobals x = some (some (.ref f)))
    (l : K.lookup f = some ⟨oc, od, .func (PySem.W.fnOf x x (defArgs st) (defBody st) (defScope st) .none kV dc pm an cd ct), sl⟩) (c : PySem.W.codeIn K cd x = true) (k : PySem.W.keepIn K (.ref f) = true) (b : BindsAll st x ps) : At K mg x st ps := by
  have F := fun_mk (st := st) l c k
  exact ⟨f, _, F, PySem.W.mg_of X G a, F.binds b⟩
/-- with its code object at c -/
structure AtD (K : PySem.W.Frag) (mg : Str → Option Value) (x : Str) (st : Stmt) (ps : List Str) (c : Addr) : Prop where
  ex : ∃ (f : Addr) (oc : Value) (od : Option Addr) (kV doc pm : Value) (an : Option Addr) (ct : Value) (osl : Array (Option Value)),
    K.lookup f = some ⟨oc, od, .func (PySem.W.fnOf x x (defArgs st) (defBody st) (defScope st) .none kV doc pm an (.ref c) ct), osl⟩ ∧ PySem.W.codeIn K (.ref c) x = true ∧ PySem.W.keepIn K (.ref f) = true ∧ mg x = some (.ref f) ∧
    Binds K (PySem.W.fnOf x x (defArgs st) (defBody st) (defScope st) .none kV doc pm an (.ref c) ct) ps []
theorem atD_of {x : Str} {st : Stmt} {ps : List Str} {f c : Addr} {oc kV dc pm ct : Value} {od an : Option Addr} {sl : Array (Option Value)} (X : K.In h) (G : h.Ns mainGlobals mg) (a : PySem.W.nsIn K mainGlobals x = some (some (.ref f)))
    (l : K.lookup f = some ⟨oc, od, .func (PySem.W.fnOf x x (defArgs st) (defBody st) (defScope st) .none kV dc pm an (.ref c) ct), sl⟩) (cc : PySem.W.codeIn K (.ref c) x = true) (k : PySem.W.keepIn K (.ref f) = true) (b : BindsAll st x ps) : AtD K mg x st ps c := by
  have F := fun_mk (st := st) l cc k
  exact ⟨f, oc, od, kV, dc, pm, an, ct, sl, l, cc, k, PySem.W.mg_of X G a, F.binds b⟩
theorem AtD.on {x : Str} {st : Stmt} {ps : List Str} {c P : Addr} {base : Heap} (a : AtD K mg x st ps c) (t : LamX.TabB base mg c P) : AtC K mg base x st ps P := by
  obtain ⟨f, oc, od, kV, dc, pm, an, ct, sl, l, cc, k, m, b⟩ := a.ex
  exact ⟨f, oc, od, kV, dc, pm, an, c, ct, sl, l, cc, k, m, b, t⟩
end
theorem uq_nodup : ∀ {T : List (Addr × Str)}, (T.map (·.1)).Nodup → Uq T
  | [], _ => fun p hp => by cases hp
  | a :: T, h => fun p hp p' hp' e => by
    rw [List.map_cons, List.nodup_cons] at h
    rcases List.mem_cons.mp hp with z | k
    · rcases List.mem_cons.mp hp' with z' | k'
      · rw [z, z']
      · subst z
        exact absurd (List.mem_map.mpr ⟨p', k', e.symm⟩) h.1
    · rcases List.mem_cons.mp hp' with z' | k'
      · subst z'
        exact absurd (List.mem_map.mpr ⟨p, k, e⟩) h.1
      · exact uq_nodup h.2 p k p' k' e
/-- the defs as the top leaves them -/
structure Top0 (K : PySem.W.Frag) (mg : Str → Option Value) (c1 c2 c3 c4 c5 : Addr) : Prop where
  integer : At K mg "is_integer" sInteger ["value"]
  within : At K mg "is_within" sWithin ["value", "low", "high"]
  fromI : At K mg "is_from" sFrom ["value", "low"]
  row : At K mg "is_row" sRow ["value", "many"]
  needRow : At K mg "need_row_of" sNeedRow ["sizes", "row"]
  form : At K mg "form" sForm ["terms", "bound"]
  keptBy : At K mg "is_kept_by" sKeptBy ["one", "row"]
  needSum : At K mg "need_sum" sNeedSum ["sizes", "value"]
  formOf : At K mg "form_of" sFormOf ["sizes", "terms", "bound"]
  weightOf : At K mg "weight_of" sWeightOf ["sizes", "one", "row"]
  kept : At K mg "kept_by" sKept ["sizes", "one", "row"]
  mixed : At K mg "_law_mixed" sMixed ["cell", "k"]
  begin : At K mg "_law_begin" sBegin ["script"]
  draw : At K mg "_law_draw" sDraw ["state", "limit"]
  many : At K mg "_law_many" sMany ["state"]
  drawn : At K mg "_law_drawn" sDrawn ["state", "sizes_so"]
  rows : At K mg "_law_rows" sRows ["sizes_so"]
  weight : At K mg "_law_weight" sWeight ["some", "row_so"]
  lform : At K mg "_law_form" sLForm ["some", "low"]
  like : At K mg "_law_like" sLike ["got", "due"]
  bound : At K mg "_law_bound" sBound ["state", "some", "sizes_so"]
  right : At K mg "_law_right" sRight ["sizes_so", "some", "low"]
  moved : At K mg "_law_moved" sMoved ["state", "some", "low"]
  law : At K mg "law" sLaw ["script"]
  needSizes : AtD K mg "need_sizes" sNeedSizes ["sizes"] c1
  rowOf : AtD K mg "is_row_of" sRowOf ["sizes", "row"] c2
  terms : AtD K mg "is_terms" sTerms ["sizes", "value"] c3
  sum : AtD K mg "is_sum" sSum ["sizes", "value"] c4
  weightIn : AtD K mg "weight_in" sWeightIn ["one", "row"] c5
  bl : Bl mg
  mC : ∃ t, mg "MOST_CHOICES" = some (.int 100 t)
  mV : ∃ t, mg "MOST_VALUES" = some (.int 200 t)
section
variable {K : PySem.W.Frag} {h : Heap} {mg : Str → Option Value}
theorem k22_on {l : PySem.W.OpenLaw} {w : World} {fa c1 c2 c3 c4 c5 P1 P2 P3 P4 P5 : Addr} (Z : Top0 K mg c1 c2 c3 c4 c5) (hmg : mg "law" = some (.ref fa)) (nd : [P1, P2, P3, P4, P5].Nodup)
    (hT : ∀ p ∈ [(c1, P1), (c2, P2), (c3, P3), (c4, P4), (c5, P5)], h.get? p.2 = some { cls := .none, data := .fields #[] }) (nT : ∀ p ∈ [(c1, P1), (c2, P2), (c3, P3), (c4, P4), (c5, P5)], K.lookup p.2 = none)
    (C : ∀ p ∈ [(c1, P1), (c2, P2), (c3, P3), (c4, P4), (c5, P5)], PySem.W.CodeHd h p.1 p.2) : LawOn l w K 8 "script" mg fa h := by
  let T : List (Addr × Str) := [(P1, qGen "need_sizes" sNeedSizes), (P2, qGen "is_row_of" sRowOf), (P3, qGen "is_terms" sTerms), (P4, qGen "is_sum" sSum), (P5, qGen "weight_in" sWeightIn)]
  obtain ⟨f, fd, Fn, m, b⟩ := Z.law.ex
  have ef : f = fa := by
    rw [m] at hmg
    cases hmg
    rfl
  subst ef
  refine ⟨fd, [(c1, P1), (c2, P2), (c3, P3), (c4, P4), (c5, P5)], spLaw K T, hT, nT, C, fun s u => ?_, fun H a ns ln tb sq => ?_, fun base MD TB => ?_⟩
  · obtain ⟨oc, od, kV, doc, pm, an, cdv, ct, osl, rfl, _, _⟩ := Fn.ex
    exact BindsTo.of_eq rfl
  · have tt : Tabs T H := fun p hp => by
      refine TabS.nil ?_
      simp only [T, List.mem_cons, List.not_mem_nil, or_false] at hp
      rcases hp with rfl | rfl | rfl | rfl | rfl
      · exact tb (c1, P1) (by simp)
      · exact tb (c2, P2) (by simp)
      · exact tb (c3, P3) (by simp)
      · exact tb (c4, P4) (by simp)
      · exact tb (c5, P5) (by simp)
    exact ⟨a, ns, rfl, sq, ln, tt, fun _ => rfl⟩
  · have uq : Uq T := uq_nodup (T := T) nd
    have I := def_integer (P := l.prog) (w := w) (base := base) Z.bl Z.integer
    have W := def_within I Z.within
    have Fr := def_from I Z.fromI
    have R := def_row (P := l.prog) (w := w) (base := base) Z.bl Z.row
    have Ns := def_needSizes (T := T) Z.bl Z.mC Z.mV W (Z.needSizes.on (TB (c1, P1) (by simp))) uq (by simp [T])
    have Ro := def_rowOf (T := T) Z.bl W R (Z.rowOf.on (TB (c2, P2) (by simp))) uq (by simp [T])
    have Nr := def_needRow Ro Z.needRow
    have Te := def_terms (T := T) Z.bl I W R (Z.terms.on (TB (c3, P3) (by simp))) uq (by simp [T])
    have Su := def_sum Z.bl Te Fr R (Z.sum.on (TB (c4, P4) (by simp))) uq (by simp [T])
    have Fo := def_form (P := l.prog) (w := w) (base := base) (T := T) Z.bl Z.form
    have We := def_weightIn (P := l.prog) (w := w) (T := T) Z.bl (Z.weightIn.on (TB (c5, P5) (by simp))) uq (by simp [T])
    have Kb := def_keptBy We Z.keptBy
    have Nu := def_needSum Ns Su Z.needSum
    have FO := def_formOf Ns Te I Fo Z.formOf
    have WO := def_weightOf Nu Nr We Z.weightOf
    have KO := def_kept Nu Nr Kb Z.kept
    have Mx := def_mixed (P := l.prog) (w := w) (base := base) Z.bl Z.mixed
    have Dr := def_draw Z.bl Mx Z.draw
    have Lw := def_weight (P := l.prog) (w := w) (base := base) Z.bl Z.weight
    have L : Pr l.prog w K mg base T :=
      { bl := Z.bl
        begin := def_begin Z.bl Z.begin
        draw := Dr
        many := def_many Z.bl Dr Z.many
        drawn := def_drawn Z.bl Dr Z.drawn
        rows := def_rows Z.bl Z.rows
        weight := Lw
        lform := def_lform Z.bl Z.lform
        like := def_like Z.bl Z.like
        bound := def_bound Z.bl Dr Lw Z.bound
        moved := def_moved Z.bl Dr Z.moved
        needSum := Nu
        formOf := FO
        weightOf := WO
        keptBy := KO }
    have Pz : Pk l.prog w K mg base T :=
      { right := def_right L Z.right
        kForm := .of FO Z.formOf (fun r => .cons (rel_at r 2) (.cons (rel_at r 1) (.cons (rel_at r 0) .nil))) fun _ _ _ _ _ _ ws hl => match ws, hl with | [_, _, _], _ => rfl
        kWeight := .of WO Z.weightOf (fun r => .cons (rel_at r 2) (.cons (rel_at r 1) (.cons (rel_at r 0) .nil))) fun _ _ _ _ _ _ ws hl => match ws, hl with | [_, _, _], _ => rfl }
    have La := def_law L Pz Z.law
    obtain ⟨f', fd', F', m', _, _, oc', od', osl', lk'⟩ := La.ex
    rw [m] at m'
    cases m'
    obtain ⟨oc, od, kV, doc, pm, an, cdv, ct, osl, rfl, lk, _⟩ := Fn.ex
    rw [lk] at lk'
    cases lk'
    exact F'
end
end K2
set_option Elab.async false
set_option linter.all false
set_option maxRecDepth 100000
open PySem PySem.W PyProof.Rows in
set_option maxRecDepth 100000 in
set_option maxHeartbeats 0 in
theorem PySem.Challenge.cw_besthours_k22_one_form_of_sums_holds : PySem.Challenge.rw_besthours_k22_one_form_of_sums.Holds := by
  w_on; o_law; k_head; (case hw => w_witness2)
  k_fill
  refine BK.walk_on (l := PySem.Challenge.rw_besthours_k22_one_form_of_sums) (k := 8) (x := "script") rfl rfl ⟨rfl, by decide, by decide⟩ (fun w h Y => PySem.W.kIn_of Y) ?F
  case F =>
    intro w mg fa h Y XP KX G tabs hmg
    refine' K2.k22_on (P1 := 95) (P2 := 102) (P3 := 116) (P4 := 123) (P5 := 135) ?Z hmg (by decide) ?hT ?nT ?C
    case Z =>
      refine' { integer := ?integer
                within := ?within
                fromI := ?fromI
                row := ?row
                needRow := ?needRow
                form := ?form
                keptBy := ?keptBy
                needSum := ?needSum
                formOf := ?formOf
                weightOf := ?weightOf
                kept := ?kept
                mixed := ?mixed
                begin := ?begin
                draw := ?draw
                many := ?many
                drawn := ?drawn
                rows := ?rows
                weight := ?weight
                lform := ?lform
                like := ?like
                bound := ?bound
                right := ?right
                moved := ?moved
                law := ?law
                needSizes := ?needSizes
                rowOf := ?rowOf
                terms := ?terms
                sum := ?sum
                weightIn := ?weightIn
                bl := ?bl
                mC := ?mC
                mV := ?mV }
      case integer =>
        refine' K2.at_of KX G ?a ?l ?c ?k ?b
        (case a => k_is); (case l => k_is); (case c => k_is); (case k => k_is)
        (case b => exact fun _ _ _ _ _ _ us hl => match us, hl with | [_], _ => rfl)
      case within =>
        refine' K2.at_of KX G ?a ?l ?c ?k ?b
        (case a => k_is); (case l => k_is); (case c => k_is); (case k => k_is)
        (case b => exact fun _ _ _ _ _ _ us hl => match us, hl with | [_, _, _], _ => rfl)
      case fromI =>
        refine' K2.at_of KX G ?a ?l ?c ?k ?b
        (case a => k_is); (case l => k_is); (case c => k_is); (case k => k_is)
        (case b => exact fun _ _ _ _ _ _ us hl => match us, hl with | [_, _], _ => rfl)
      case row =>
        refine' K2.at_of KX G ?a ?l ?c ?k ?b
        (case a => k_is); (case l => k_is); (case c => k_is); (case k => k_is)
        (case b => exact fun _ _ _ _ _ _ us hl => match us, hl with | [_, _], _ => rfl)
      case needRow =>
        refine' K2.at_of KX G ?a ?l ?c ?k ?b
        (case a => k_is); (case l => k_is); (case c => k_is); (case k => k_is)
        (case b => exact fun _ _ _ _ _ _ us hl => match us, hl with | [_, _], _ => rfl)
      case form =>
        refine' K2.at_of KX G ?a ?l ?c ?k ?b
        (case a => k_is); (case l => k_is); (case c => k_is); (case k => k_is)
        (case b => exact fun _ _ _ _ _ _ us hl => match us, hl with | [_, _], _ => rfl)
      case keptBy =>
        refine' K2.at_of KX G ?a ?l ?c ?k ?b
        (case a => k_is); (case l => k_is); (case c => k_is); (case k => k_is)
        (case b => exact fun _ _ _ _ _ _ us hl => match us, hl with | [_, _], _ => rfl)
      case needSum =>
        refine' K2.at_of KX G ?a ?l ?c ?k ?b
        (case a => k_is); (case l => k_is); (case c => k_is); (case k => k_is)
        (case b => exact fun _ _ _ _ _ _ us hl => match us, hl with | [_, _], _ => rfl)
      case formOf =>
        refine' K2.at_of KX G ?a ?l ?c ?k ?b
        (case a => k_is); (case l => k_is); (case c => k_is); (case k => k_is)
        (case b => exact fun _ _ _ _ _ _ us hl => match us, hl with | [_, _, _], _ => rfl)
      case weightOf =>
        refine' K2.at_of KX G ?a ?l ?c ?k ?b
        (case a => k_is); (case l => k_is); (case c => k_is); (case k => k_is)
        (case b => exact fun _ _ _ _ _ _ us hl => match us, hl with | [_, _, _], _ => rfl)
      case kept =>
        refine' K2.at_of KX G ?a ?l ?c ?k ?b
        (case a => k_is); (case l => k_is); (case c => k_is); (case k => k_is)
        (case b => exact fun _ _ _ _ _ _ us hl => match us, hl with | [_, _, _], _ => rfl)
      case mixed =>
        refine' K2.at_of KX G ?a ?l ?c ?k ?b
        (case a => k_is); (case l => k_is); (case c => k_is); (case k => k_is)
        (case b => exact fun _ _ _ _ _ _ us hl => match us, hl with | [_, _], _ => rfl)
      case begin =>
        refine' K2.at_of KX G ?a ?l ?c ?k ?b
        (case a => k_is); (case l => k_is); (case c => k_is); (case k => k_is)
        (case b => exact fun _ _ _ _ _ _ us hl => match us, hl with | [_], _ => rfl)
      case draw =>
        refine' K2.at_of KX G ?a ?l ?c ?k ?b
        (case a => k_is); (case l => k_is); (case c => k_is); (case k => k_is)
        (case b => exact fun _ _ _ _ _ _ us hl => match us, hl with | [_, _], _ => rfl)
      case many =>
        refine' K2.at_of KX G ?a ?l ?c ?k ?b
        (case a => k_is); (case l => k_is); (case c => k_is); (case k => k_is)
        (case b => exact fun _ _ _ _ _ _ us hl => match us, hl with | [_], _ => rfl)
      case drawn =>
        refine' K2.at_of KX G ?a ?l ?c ?k ?b
        (case a => k_is); (case l => k_is); (case c => k_is); (case k => k_is)
        (case b => exact fun _ _ _ _ _ _ us hl => match us, hl with | [_, _], _ => rfl)
      case rows =>
        refine' K2.at_of KX G ?a ?l ?c ?k ?b
        (case a => k_is); (case l => k_is); (case c => k_is); (case k => k_is)
        (case b => exact fun _ _ _ _ _ _ us hl => match us, hl with | [_], _ => rfl)
      case weight =>
        refine' K2.at_of KX G ?a ?l ?c ?k ?b
        (case a => k_is); (case l => k_is); (case c => k_is); (case k => k_is)
        (case b => exact fun _ _ _ _ _ _ us hl => match us, hl with | [_, _], _ => rfl)
      case lform =>
        refine' K2.at_of KX G ?a ?l ?c ?k ?b
        (case a => k_is); (case l => k_is); (case c => k_is); (case k => k_is)
        (case b => exact fun _ _ _ _ _ _ us hl => match us, hl with | [_, _], _ => rfl)
      case like =>
        refine' K2.at_of KX G ?a ?l ?c ?k ?b
        (case a => k_is); (case l => k_is); (case c => k_is); (case k => k_is)
        (case b => exact fun _ _ _ _ _ _ us hl => match us, hl with | [_, _], _ => rfl)
      case bound =>
        refine' K2.at_of KX G ?a ?l ?c ?k ?b
        (case a => k_is); (case l => k_is); (case c => k_is); (case k => k_is)
        (case b => exact fun _ _ _ _ _ _ us hl => match us, hl with | [_, _, _], _ => rfl)
      case right =>
        refine' K2.at_of KX G ?a ?l ?c ?k ?b
        (case a => k_is); (case l => k_is); (case c => k_is); (case k => k_is)
        (case b => exact fun _ _ _ _ _ _ us hl => match us, hl with | [_, _, _], _ => rfl)
      case moved =>
        refine' K2.at_of KX G ?a ?l ?c ?k ?b
        (case a => k_is); (case l => k_is); (case c => k_is); (case k => k_is)
        (case b => exact fun _ _ _ _ _ _ us hl => match us, hl with | [_, _, _], _ => rfl)
      case law =>
        refine' K2.at_of KX G ?a ?l ?c ?k ?b
        (case a => k_is); (case l => k_is); (case c => k_is); (case k => k_is)
        (case b => exact fun _ _ _ _ _ _ us hl => match us, hl with | [_], _ => rfl)
      case needSizes =>
        refine' K2.atD_of KX G ?a ?l ?c ?k ?b
        (case a => k_is); (case l => k_is); (case c => k_is); (case k => k_is)
        (case b => exact fun _ _ _ _ _ _ us hl => match us, hl with | [_], _ => rfl)
      case rowOf =>
        refine' K2.atD_of KX G ?a ?l ?c ?k ?b
        (case a => k_is); (case l => k_is); (case c => k_is); (case k => k_is)
        (case b => exact fun _ _ _ _ _ _ us hl => match us, hl with | [_, _], _ => rfl)
      case terms =>
        refine' K2.atD_of KX G ?a ?l ?c ?k ?b
        (case a => k_is); (case l => k_is); (case c => k_is); (case k => k_is)
        (case b => exact fun _ _ _ _ _ _ us hl => match us, hl with | [_, _], _ => rfl)
      case sum =>
        refine' K2.atD_of KX G ?a ?l ?c ?k ?b
        (case a => k_is); (case l => k_is); (case c => k_is); (case k => k_is)
        (case b => exact fun _ _ _ _ _ _ us hl => match us, hl with | [_, _], _ => rfl)
      case weightIn =>
        refine' K2.atD_of KX G ?a ?l ?c ?k ?b
        (case a => k_is); (case l => k_is); (case c => k_is); (case k => k_is)
        (case b => exact fun _ _ _ _ _ _ us hl => match us, hl with | [_, _], _ => rfl)
      case bl =>
        refine' ⟨PySem.W.mg_none_of KX G ?_, PySem.W.mg_none_of KX G ?_, PySem.W.mg_none_of KX G ?_, PySem.W.mg_none_of KX G ?_, PySem.W.mg_none_of KX G ?_, PySem.W.mg_none_of KX G ?_, PySem.W.mg_none_of KX G ?_, PySem.W.mg_none_of KX G ?_, PySem.W.mg_none_of KX G ?_, PySem.W.mg_none_of KX G ?_, PySem.W.mg_none_of KX G ?_, PySem.W.mg_none_of KX G ?_, PySem.W.mg_none_of KX G ?_, PySem.W.mg_none_of KX G ?_⟩ <;> k_is
      case mC => exact ⟨_, PySem.W.mg_of KX G (by k_is)⟩
      case mV => exact ⟨_, PySem.W.mg_of KX G (by k_is)⟩
    case hT =>
      intro p hp
      simp only [List.mem_cons, List.not_mem_nil, or_false] at hp
      rcases hp with rfl | rfl | rfl | rfl | rfl
      · exact (tabs "need_sizes" _ 99 95 rfl (by kernel_rfl)).2
      · exact (tabs "is_row_of" _ 106 102 rfl (by kernel_rfl)).2
      · exact (tabs "is_terms" _ 120 116 rfl (by kernel_rfl)).2
      · exact (tabs "is_sum" _ 127 123 rfl (by kernel_rfl)).2
      · exact (tabs "weight_in" _ 139 135 rfl (by kernel_rfl)).2
    case nT =>
      intro p hp
      simp only [List.mem_cons, List.not_mem_nil, or_false] at hp
      rcases hp with rfl | rfl | rfl | rfl | rfl <;> kernel_rfl
    case C =>
      intro p hp
      simp only [List.mem_cons, List.not_mem_nil, or_false] at hp
      rcases hp with rfl | rfl | rfl | rfl | rfl
      · exact (tabs "need_sizes" _ 99 95 rfl (by kernel_rfl)).1
      · exact (tabs "is_row_of" _ 106 102 rfl (by kernel_rfl)).1
      · exact (tabs "is_terms" _ 120 116 rfl (by kernel_rfl)).1
      · exact (tabs "is_sum" _ 127 123 rfl (by kernel_rfl)).1
      · exact (tabs "weight_in" _ 139 135 rfl (by kernel_rfl)).1
