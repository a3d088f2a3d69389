/-
  OPERATIONS' NAMES; LISTS OF WORDS ALL OF A KIND, COPIED, AND WHERE = STANDS. Conditions: each theorem's own.
-/
import Derived.Test.YtadgnafafdfioaaGreatDoorRn
namespace Go.Proofs.YtadgnafafdfioaaGreatDoor.Rd
set_option maxRecDepth 100000
open Go.RowKit Nm
set_option linter.unusedVariables false

theorem isw_l {x : ByteArray} {l : List UInt8} {b : Bool} (h : isw x l = b) : (x.toList == l) = b := by rw [isw_list]; exact h
theorem ari_none {x : ByteArray} (h : twos.any (isw x) = false) (h1 : ones.any (isw x) = false) (h2 : isw x lScale = false) (h3 : isw x lPower = false) (h4 : isw x lReshape = false) (h5 : isw x lSpread = false) : ari x = 0 := by
  unfold ari
  rw [h, h1, h2, h3, h4, h5]; rfl
set_option maxHeartbeats 2000000 in
theorem arity_any (x : ByteArray) (w : World) : Calls Tryz.prog 76 #[.string x] w fun e w' => e = .returned (.int .i64 (ari x : Nat)) ∧ w' = w := by
  cases h0 : isw x [97, 100, 100] with
  | true =>
    obtain rfl := isw_eq h0
    have e : ari ⟨List.toArray [97, 100, 100]⟩ = 2 := by decide +kernel
    rw [e]
    clear h0
    go_enter Tryz.func76, Tryz.ntmps76
    go_wp2
    go_ret
    exact ⟨rfl, rfl⟩
  | false =>
    cases h1 : isw x [115, 117, 98] with
    | true =>
      obtain rfl := isw_eq h1
      have e : ari ⟨List.toArray [115, 117, 98]⟩ = 2 := by decide +kernel
      rw [e]
      clear h0
      clear h1
      go_enter Tryz.func76, Tryz.ntmps76
      go_wp2
      go_ret
      exact ⟨rfl, rfl⟩
    | false =>
      cases h2 : isw x [109, 117, 108] with
      | true =>
        obtain rfl := isw_eq h2
        have e : ari ⟨List.toArray [109, 117, 108]⟩ = 2 := by decide +kernel
        rw [e]
        clear h0
        clear h1
        clear h2
        go_enter Tryz.func76, Tryz.ntmps76
        go_wp2
        go_ret
        exact ⟨rfl, rfl⟩
      | false =>
        cases h3 : isw x [109, 97, 120] with
        | true =>
          obtain rfl := isw_eq h3
          have e : ari ⟨List.toArray [109, 97, 120]⟩ = 2 := by decide +kernel
          rw [e]
          clear h0
          clear h1
          clear h2
          clear h3
          go_enter Tryz.func76, Tryz.ntmps76
          go_wp2
          go_ret
          exact ⟨rfl, rfl⟩
        | false =>
          cases h4 : isw x [97, 98, 111, 118, 101] with
          | true =>
            obtain rfl := isw_eq h4
            have e : ari ⟨List.toArray [97, 98, 111, 118, 101]⟩ = 2 := by decide +kernel
            rw [e]
            clear h0
            clear h1
            clear h2
            clear h3
            clear h4
            go_enter Tryz.func76, Tryz.ntmps76
            go_wp2
            go_ret
            exact ⟨rfl, rfl⟩
          | false =>
            cases h5 : isw x [109, 97, 116, 109, 117, 108] with
            | true =>
              obtain rfl := isw_eq h5
              have e : ari ⟨List.toArray [109, 97, 116, 109, 117, 108]⟩ = 2 := by decide +kernel
              rw [e]
              clear h0
              clear h1
              clear h2
              clear h3
              clear h4
              clear h5
              go_enter Tryz.func76, Tryz.ntmps76
              go_wp2
              go_ret
              exact ⟨rfl, rfl⟩
            | false =>
              cases h6 : isw x [114, 101, 108, 117] with
              | true =>
                obtain rfl := isw_eq h6
                have e : ari ⟨List.toArray [114, 101, 108, 117]⟩ = 1 := by decide +kernel
                rw [e]
                clear h0
                clear h1
                clear h2
                clear h3
                clear h4
                clear h5
                clear h6
                go_enter Tryz.func76, Tryz.ntmps76
                go_wp2
                go_ret
                exact ⟨rfl, rfl⟩
              | false =>
                cases h7 : isw x [97, 98, 115] with
                | true =>
                  obtain rfl := isw_eq h7
                  have e : ari ⟨List.toArray [97, 98, 115]⟩ = 1 := by decide +kernel
                  rw [e]
                  clear h0
                  clear h1
                  clear h2
                  clear h3
                  clear h4
                  clear h5
                  clear h6
                  clear h7
                  go_enter Tryz.func76, Tryz.ntmps76
                  go_wp2
                  go_ret
                  exact ⟨rfl, rfl⟩
                | false =>
                  cases h8 : isw x [115, 116, 101, 112] with
                  | true =>
                    obtain rfl := isw_eq h8
                    have e : ari ⟨List.toArray [115, 116, 101, 112]⟩ = 1 := by decide +kernel
                    rw [e]
                    clear h0
                    clear h1
                    clear h2
                    clear h3
                    clear h4
                    clear h5
                    clear h6
                    clear h7
                    clear h8
                    go_enter Tryz.func76, Tryz.ntmps76
                    go_wp2
                    go_ret
                    exact ⟨rfl, rfl⟩
                  | false =>
                    cases h9 : isw x [115, 105, 103, 110] with
                    | true =>
                      obtain rfl := isw_eq h9
                      have e : ari ⟨List.toArray [115, 105, 103, 110]⟩ = 1 := by decide +kernel
                      rw [e]
                      clear h0
                      clear h1
                      clear h2
                      clear h3
                      clear h4
                      clear h5
                      clear h6
                      clear h7
                      clear h8
                      clear h9
                      go_enter Tryz.func76, Tryz.ntmps76
                      go_wp2
                      go_ret
                      exact ⟨rfl, rfl⟩
                    | false =>
                      cases h10 : isw x [116, 114, 97, 110, 115, 112, 111, 115, 101] with
                      | true =>
                        obtain rfl := isw_eq h10
                        have e : ari ⟨List.toArray [116, 114, 97, 110, 115, 112, 111, 115, 101]⟩ = 1 := by decide +kernel
                        rw [e]
                        clear h0
                        clear h1
                        clear h2
                        clear h3
                        clear h4
                        clear h5
                        clear h6
                        clear h7
                        clear h8
                        clear h9
                        clear h10
                        go_enter Tryz.func76, Tryz.ntmps76
                        go_wp2
                        go_ret
                        exact ⟨rfl, rfl⟩
                      | false =>
                        cases h11 : isw x [115, 117, 109] with
                        | true =>
                          obtain rfl := isw_eq h11
                          have e : ari ⟨List.toArray [115, 117, 109]⟩ = 1 := by decide +kernel
                          rw [e]
                          clear h0
                          clear h1
                          clear h2
                          clear h3
                          clear h4
                          clear h5
                          clear h6
                          clear h7
                          clear h8
                          clear h9
                          clear h10
                          clear h11
                          go_enter Tryz.func76, Tryz.ntmps76
                          go_wp2
                          go_ret
                          exact ⟨rfl, rfl⟩
                        | false =>
                          cases h12 : isw x [115, 99, 97, 108, 101] with
                          | true =>
                            obtain rfl := isw_eq h12
                            have e : ari ⟨List.toArray [115, 99, 97, 108, 101]⟩ = 1 := by decide +kernel
                            rw [e]
                            clear h0
                            clear h1
                            clear h2
                            clear h3
                            clear h4
                            clear h5
                            clear h6
                            clear h7
                            clear h8
                            clear h9
                            clear h10
                            clear h11
                            clear h12
                            go_enter Tryz.func76, Tryz.ntmps76
                            go_wp2
                            go_ret
                            exact ⟨rfl, rfl⟩
                          | false =>
                            cases h13 : isw x [112, 111, 119, 101, 114] with
                            | true =>
                              obtain rfl := isw_eq h13
                              have e : ari ⟨List.toArray [112, 111, 119, 101, 114]⟩ = 1 := by decide +kernel
                              rw [e]
                              clear h0
                              clear h1
                              clear h2
                              clear h3
                              clear h4
                              clear h5
                              clear h6
                              clear h7
                              clear h8
                              clear h9
                              clear h10
                              clear h11
                              clear h12
                              clear h13
                              go_enter Tryz.func76, Tryz.ntmps76
                              go_wp2
                              go_ret
                              exact ⟨rfl, rfl⟩
                            | false =>
                              cases h14 : isw x [114, 101, 115, 104, 97, 112, 101] with
                              | true =>
                                obtain rfl := isw_eq h14
                                have e : ari ⟨List.toArray [114, 101, 115, 104, 97, 112, 101]⟩ = 1 := by decide +kernel
                                rw [e]
                                clear h0
                                clear h1
                                clear h2
                                clear h3
                                clear h4
                                clear h5
                                clear h6
                                clear h7
                                clear h8
                                clear h9
                                clear h10
                                clear h11
                                clear h12
                                clear h13
                                clear h14
                                go_enter Tryz.func76, Tryz.ntmps76
                                go_wp2
                                go_ret
                                exact ⟨rfl, rfl⟩
                              | false =>
                                cases h15 : isw x [115, 112, 114, 101, 97, 100] with
                                | true =>
                                  obtain rfl := isw_eq h15
                                  have e : ari ⟨List.toArray [115, 112, 114, 101, 97, 100]⟩ = 1 := by decide +kernel
                                  rw [e]
                                  clear h0
                                  clear h1
                                  clear h2
                                  clear h3
                                  clear h4
                                  clear h5
                                  clear h6
                                  clear h7
                                  clear h8
                                  clear h9
                                  clear h10
                                  clear h11
                                  clear h12
                                  clear h13
                                  clear h14
                                  clear h15
                                  go_enter Tryz.func76, Tryz.ntmps76
                                  go_wp2
                                  go_ret
                                  exact ⟨rfl, rfl⟩
                                | false =>
                                  have e : ari x = 0 := by
                                    refine ari_none ?_ ?_ h12 h13 h14 h15
                                    · simp only [twos, List.any_cons, List.any_nil, h0, h1, h2, h3, h4, h5]; rfl
                                    · simp only [ones, List.any_cons, List.any_nil, h6, h7, h8, h9, h10, h11]; rfl
                                  rw [e]
                                  have g0 := isw_l h0
                                  have g1 := isw_l h1
                                  have g2 := isw_l h2
                                  have g3 := isw_l h3
                                  have g4 := isw_l h4
                                  have g5 := isw_l h5
                                  have g6 := isw_l h6
                                  have g7 := isw_l h7
                                  have g8 := isw_l h8
                                  have g9 := isw_l h9
                                  have g10 := isw_l h10
                                  have g11 := isw_l h11
                                  have g12 := isw_l h12
                                  have g13 := isw_l h13
                                  have g14 := isw_l h14
                                  have g15 := isw_l h15
                                  clear h0
                                  clear h1
                                  clear h2
                                  clear h3
                                  clear h4
                                  clear h5
                                  clear h6
                                  clear h7
                                  clear h8
                                  clear h9
                                  clear h10
                                  clear h11
                                  clear h12
                                  clear h13
                                  clear h14
                                  clear h15
                                  clear e
                                  go_enter Tryz.func76, Tryz.ntmps76
                                  go_wp2
                                  go_ret
                                  exact ⟨rfl, rfl⟩
end Go.Proofs.YtadgnafafdfioaaGreatDoor.Rd
