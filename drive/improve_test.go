package drive_test

import (
	"math"
	"math/rand"
	"slices"
	"testing"

	"haulier/api"
	"haulier/drive"
	"haulier/seed"
)

// answer is what Improve answers.
type answer struct {
	S           api.Solution
	Taken, Read int
}

func (a answer) same(b answer) bool {
	return same(a.S, b.S) && a.Taken == b.Taken && a.Read == b.Read
}

// worse: is a score worse than another one?
func worse(a, b api.Score) bool {
	return a.Value < b.Value || a.Value == b.Value && a.Cost > b.Cost
}

// improved: what Improve answers; is it right, no worse, and within its steps and draws?
func improved(t *testing.T, what string, p api.Problem, s api.Solution, steps int, draws []int) answer {
	t.Helper()
	lawful(t, p)
	if wrong := wrongWith(p, s); wrong != "" {
		t.Fatalf("the test's own solution is wrong: %s: %+v: %v", wrong, p, s)
	}
	var a answer
	a.S, a.Taken, a.Read = drive.Improve(p, s, steps, draws)
	if wrong := wrongWith(p, a.S); wrong != "" {
		t.Fatalf("P18.2: %s: %+v: Improve(%v, %d, %v): %v: %s", what, p, s, steps, draws, a.S, wrong)
	}
	was, _ := scoreOf(p, s)
	if is, _ := scoreOf(p, a.S); worse(is, was) {
		t.Fatalf("P18.2: %s: %+v: Improve(%v, %d, %v): %v: %v, worse than %v", what, p, s, steps, draws, a.S, is, was)
	}
	if a.Taken < 0 || a.Taken > max(steps, 0) {
		t.Fatalf("P10: %s: %+v: Improve(%v, %d, %v): %d steps", what, p, s, steps, draws, a.Taken)
	}
	// It must have looked at another solution to answer it.
	if a.Taken == 0 && !same(a.S, s) {
		t.Fatalf("P10: %s: %+v: Improve(%v, %d, %v): %v by no steps", what, p, s, steps, draws, a.S)
	}
	if a.Read < 0 || a.Read > len(draws) {
		t.Fatalf("P10: %s: %+v: Improve(%v, %d, %v): %d draws", what, p, s, steps, draws, a.Read)
	}
	return a
}

// stays: does Improve answer the same solution, no steps and no draws?
func stays(t *testing.T, what string, p api.Problem, s api.Solution, steps int, draws []int) {
	t.Helper()
	lawful(t, p)
	var a answer
	a.S, a.Taken, a.Read = drive.Improve(p, s, steps, draws)
	if !a.same(answer{S: s}) {
		t.Errorf("P18.2: %s: %+v: Improve(%v, %d, %v): %+v", what, p, s, steps, draws, a)
	}
}

// TestWithoutSteps: the solution itself.
func TestWithoutSteps(t *testing.T) {
	r := rand.New(rand.NewSource(183))
	for range 500 {
		p := drawnProblem(r)
		for _, s := range starts(r, p) {
			for _, steps := range []int{0, -1, -2, -1000, -1 << 32, math.MinInt + 1, math.MinInt} {
				stays(t, "no steps", p, s, steps, draws(r, r.Intn(4)))
			}
		}
	}
}

// TestImproveWithoutScore: a solution of which Score answers an error stays, whatever else is wrong with it, and however it is written.
func TestImproveWithoutScore(t *testing.T) {
	p := town()
	for _, s := range []api.Solution{
		routes(route(2, job(0))),
		routes(route(-1)),
		routes(route(0, job(0), job(0))),
		routes(route(1, job(1)), route(0, job(0))),
		routes(route(0), route(0), route(0, delivery(0))),
		routes(route(1, job(0)), route(1, pause(0)), route(0, job(0))),
		routes(route(0, api.Visit{Kind: -1, Item: math.MaxInt})),
	} {
		for _, steps := range []int{-1, 0, 1, 2, 1000} {
			stays(t, "an error", p, s, steps, []int{5, -3})
		}
	}
	r := rand.New(rand.NewSource(184))
	wrong := 0
	for range 5000 {
		p := drawnProblem(r)
		s := drawnRoutes(r, p)
		if _, e := scoreOf(p, s); e != api.OK {
			stays(t, "an error", p, s, r.Intn(200), draws(r, r.Intn(4)))
			wrong++
		}
	}
	if wrong < 1000 {
		t.Errorf("only %d of the drawn solutions have an error", wrong)
	}
}

// TestImproveEach: of drawn problems, from good solutions and bad ones, by few steps and many.
func TestImproveEach(t *testing.T) {
	r := rand.New(rand.NewSource(185))
	better, all := 0, 0
	for range 500 {
		p := drawnProblem(r)
		for _, s := range starts(r, p) {
			for _, steps := range []int{1, r.Intn(30), r.Intn(600)} {
				a := improved(t, "drawn", p, s, steps, draws(r, r.Intn(20)))
				was, _ := scoreOf(p, s)
				if is, _ := scoreOf(p, a.S); is != was {
					better++
				}
				all++
			}
		}
	}
	// How much is better is free.
	t.Logf("%d of %d are better", better, all)
}

// TestEveryBudget: each number of steps from 0 on.
func TestEveryBudget(t *testing.T) {
	r := rand.New(rand.NewSource(186))
	for range 6 {
		p := drawnProblem(r)
		for _, s := range starts(r, p) {
			l := draws(r, 9)
			for steps := range 150 {
				improved(t, "so many steps", p, s, steps, l)
			}
		}
	}
}

// TestNoWorseThanGreedy: P8: from the greedy solution on.
func TestNoWorseThanGreedy(t *testing.T) {
	r := rand.New(rand.NewSource(187))
	for range 300 {
		p := drawnProblem(r)
		greedy := seed.Greedy(p)
		least, _ := scoreOf(p, greedy)
		for _, steps := range []int{-1, 0, 1, 2, 10, 100, 1000} {
			a := improved(t, "greedy", p, greedy, steps, draws(r, r.Intn(9)))
			if is, _ := scoreOf(p, a.S); worse(is, least) {
				t.Errorf("P8: %+v: %v, worse than %v", p, a.S, greedy)
			}
		}
	}
}

// TestImproveTown: problems made by hand, in which much may be changed, and little is right.
func TestImproveTown(t *testing.T) {
	r := rand.New(rand.NewSource(188))
	crowd := village([]api.Vehicle{car(0), car(8), car(4)}, 1, 7, 2, 6, 3, 5, 4, 8)
	for i := range crowd.Jobs {
		crowd.Jobs[i].Priority = i % 3
	}
	tight := village([]api.Vehicle{car(0), car(8)}, 1, 7, 2, 6)
	for i := range tight.Jobs {
		tight.Jobs[i].Stop.Windows, tight.Jobs[i].Priority = spans(10*i, 10*i+60), 1
	}
	tight.Vehicles[0].Shift.To, tight.Vehicles[1].MaxTasks = 100, 1
	gap := town()
	gap.Time.Cells[7], gap.Dist.Cells[4], gap.Time.Cells[14] = -1, -1, -1
	for _, p := range []api.Problem{town(), crowd, tight, gap, village(nil, 1, 2), village([]api.Vehicle{car(0), car(1)}), village([]api.Vehicle{car(0)}, 3)} {
		for range 20 {
			for _, s := range starts(r, p) {
				improved(t, "by hand", p, s, r.Intn(1500), draws(r, r.Intn(30)))
			}
		}
	}
}

// TestImproveGreat: the greatest problems.
func TestImproveGreat(t *testing.T) {
	r := rand.New(rand.NewSource(189))
	for _, ships := range []int{0, 5, 12} {
		p := great(r, ships)
		for _, s := range starts(r, p) {
			within(t, "a great problem", func() { improved(t, "great", p, s, 3000, draws(r, 1000)) })
		}
	}
}

// TestZerosBehind: draws that lack read as 0: zeros put behind change neither the solution nor the steps; nor do zeros taken away.
func TestZerosBehind(t *testing.T) {
	r := rand.New(rand.NewSource(190))
	for range 80 {
		p := drawnProblem(r)
		for _, s := range starts(r, p) {
			steps := r.Intn(900)
			l := draws(r, r.Intn(6))
			want := improved(t, "draws", p, s, steps, l)
			for _, n := range []int{1, 3, 1000} {
				got := improved(t, "zeros", p, s, steps, slices.Concat(l, make([]int, n)))
				if !same(want.S, got.S) || want.Taken != got.Taken {
					t.Errorf("P10: %+v: Improve(%v, %d, %v): %+v; with %d zeros behind: %+v", p, s, steps, l, want, n, got)
				}
				if got.Read < want.Read || want.Read < len(l) && got.Read != want.Read {
					t.Errorf("P10: %+v: Improve(%v, %d, %v): %d draws read; with %d zeros behind: %d", p, s, steps, l, want.Read, n, got.Read)
				}
			}
		}
	}
	p := town()
	for n := range 40 {
		want, got := improved(t, "none", p, seed.Greedy(p), 2000, nil), improved(t, "zeros", p, seed.Greedy(p), 2000, make([]int, n))
		if !same(want.S, got.S) || want.Taken != got.Taken {
			t.Errorf("P10: %+v without draws, %+v with %d zeros", want, got, n)
		}
	}
}

// TestUnreadDraws: draws that weren't read say nothing: without them, and with others in their stead, the answer is the same.
func TestUnreadDraws(t *testing.T) {
	r := rand.New(rand.NewSource(191))
	for range 150 {
		p := drawnProblem(r)
		for _, s := range starts(r, p) {
			steps := r.Intn(400)
			l := draws(r, r.Intn(60))
			want := improved(t, "draws", p, s, steps, l)
			for _, other := range [][]int{l[:want.Read], slices.Concat(l[:want.Read], draws(r, 30))} {
				// Where all were read, more might be read.
				if want.Read == len(l) && len(other) > len(l) {
					continue
				}
				if got := improved(t, "others", p, s, steps, other); !got.same(want) {
					t.Errorf("P10: %+v: Improve(%v, %d, %v): %+v; of %v: %+v", p, s, steps, l, want, other, got)
				}
			}
		}
	}
}

// TestStrangeDraws: all numbers are draws.
func TestStrangeDraws(t *testing.T) {
	ends := []int{math.MinInt, math.MinInt + 1, -1 << 62, -1<<32 - 1, -1 << 32, -1 << 31, -7, -3, -2, -1, 1, 2, 3, 7, 1 << 31, 1<<32 - 1, 1 << 32, 1 << 62, math.MaxInt - 1, math.MaxInt}
	p := town()
	for _, a := range ends {
		improved(t, "one", p, seed.Greedy(p), 400, []int{a})
		improved(t, "many", p, seed.Greedy(p), 400, slices.Repeat([]int{a}, 60))
		for _, b := range ends {
			improved(t, "two", p, seed.Greedy(p), 200, slices.Repeat([]int{a, b}, 20))
		}
	}
}
