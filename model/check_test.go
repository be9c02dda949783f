package model

import (
	"fmt"
	"math"
	"testing"

	"haulier/api"
)

// checks: does Check answer this error?
func checks(t *testing.T, what string, p api.Problem, want api.Errno) {
	t.Helper()
	if e := Check(p); e != want {
		t.Errorf("P12.1: %s: %d, want %d", what, e, want)
	}
}

// outside: numbers that lie outside these bounds, the next ones and those that another width of numbers would take for ones inside.
func outside(least, most int) []int {
	return []int{least - 1, least - 2, most + 1, most + 2, least - 1<<32, most + 1<<32, least + 1<<32, least - 1<<16 - most, -1 << 62, 1 << 62, math.MinInt, math.MinInt + 1, math.MaxInt - 1, math.MaxInt}
}

func TestLimits(t *testing.T) {
	if api.MaxDims != 3 || api.MaxPlaces != 32 || api.MaxVehicles != 4 || api.MaxTasks != 12 || api.MaxBreaks != 2 || api.MaxNumber != 1000000 || maxCell != 32000000 {
		t.Error("the document's limits are others")
	}
}

func TestCheckLawful(t *testing.T) {
	for _, k := range kinds() {
		checks(t, fmt.Sprint(k), sample(k), api.OK)
	}
	for n := 1; n <= 32; n++ {
		for dims := range 4 {
			k := kind{n, dims, n % 5, n % 7, n % 6}
			checks(t, fmt.Sprint(k), sample(k), api.OK)
		}
	}
}

// TestCheckBarest: places and no more.
func TestCheckBarest(t *testing.T) {
	m := api.Matrix{N: 1, Cells: []int{0}}
	checks(t, "one place", api.Problem{Time: m, Dist: m}, api.OK)
	checks(t, "nothing", api.Problem{}, api.ErrRange)
	checks(t, "no distances", api.Problem{Time: m}, api.ErrRange)
	checks(t, "no times", api.Problem{Dist: m}, api.ErrRange)
}

// TestCheckDims: each number of dimensions, with amounts of just so many.
func TestCheckDims(t *testing.T) {
	for dims := 0; dims <= 6; dims++ {
		want := api.OK
		if dims > 3 {
			want = api.ErrRange
		}
		for _, k := range kinds() {
			k.dims = dims
			checks(t, fmt.Sprint("Dims of ", k), sample(k), want)
		}
	}
	for _, dims := range outside(0, 3) {
		for _, k := range kinds() {
			k.dims = 0
			p := sample(k)
			p.Dims = dims
			checks(t, fmt.Sprint("Dims ", dims), p, api.ErrRange)
		}
	}
	p := sample(kind{3, 2, 0, 0, 0})
	for dims := range 4 {
		p.Dims = dims
		checks(t, fmt.Sprint("nothing of Dims ", dims), p, api.OK)
	}
}

// TestCheckOtherDims: amounts of fewer or more dimensions than there are.
func TestCheckOtherDims(t *testing.T) {
	for has := range 5 {
		for dims := range 4 {
			for _, k := range []kind{{3, has, 1, 0, 0}, {3, has, 0, 1, 0}, {3, has, 0, 0, 1}} {
				p := sample(k)
				p.Dims = dims
				want := api.ErrRange
				if has == dims {
					want = api.OK
				}
				checks(t, fmt.Sprintf("Dims %d of %v", dims, k), p, want)
			}
		}
	}
}

// TestCheckPlaces: no place, and more than MaxPlaces; all else fits to the number.
func TestCheckPlaces(t *testing.T) {
	for n := 1; n <= 40; n++ {
		want := api.OK
		if n > 32 {
			want = api.ErrRange
		}
		checks(t, fmt.Sprint(n, " places"), sample(kind{n, 1, 1, 1, 1}), want)
		checks(t, fmt.Sprint(n, " places"), sample(kind{n, 0, 0, 0, 0}), want)
	}
	checks(t, "64 places", sample(kind{64, 1, 1, 1, 1}), api.ErrRange)
	checks(t, "0 places", sample(kind{}), api.ErrRange)
	for n := -40; n < 0; n++ {
		m := table(-n, 10) // as many cells as n times n
		m.N = n
		checks(t, fmt.Sprint(n, " places"), api.Problem{Time: m, Dist: m}, api.ErrRange)
	}
	for _, n := range outside(1, 32) {
		checks(t, fmt.Sprint(n, " places"), api.Problem{Time: api.Matrix{N: n}, Dist: api.Matrix{N: n}}, api.ErrRange)
		m := api.Matrix{N: n, Cells: []int{0}}
		checks(t, fmt.Sprint(n, " places"), api.Problem{Time: m, Dist: m}, api.ErrRange)
	}
}

// TestCheckOtherN: the matrices must be of the same number of places.
func TestCheckOtherN(t *testing.T) {
	for a := 1; a <= 34; a++ {
		for b := 1; b <= 34; b++ {
			want := api.ErrRange
			if a == b && a <= 32 {
				want = api.OK
			}
			checks(t, fmt.Sprintf("matrices of %d and %d", a, b), api.Problem{Time: table(a, 10), Dist: table(b, 10)}, want)
		}
	}
	for _, n := range append(outside(5, 5), 0, 1, 32) {
		p := sample(kind{5, 1, 1, 1, 1})
		p.Dist.N = n
		checks(t, fmt.Sprint("Dist.N ", n), p, api.ErrRange)
		p = sample(kind{5, 1, 1, 1, 1})
		p.Time.N = n
		checks(t, fmt.Sprint("Time.N ", n), p, api.ErrRange)
	}
}

// matrices: both matrices of a problem.
func matrices(p *api.Problem) []*api.Matrix { return []*api.Matrix{&p.Time, &p.Dist} }

// TestCheckCellCount: fewer and more cells than there must be.
func TestCheckCellCount(t *testing.T) {
	for which := range 2 {
		for _, n := range []int{1, 2, 3, 6, 31, 32} {
			for _, count := range []int{0, 1, n - 1, n, n + 1, n*n - n, n*n - 1, n * n, n*n + 1, n*n + n, (n + 1) * (n + 1), 2 * n * n, 4096} {
				p := sample(kind{n, 1, 1, 1, 1})
				m := matrices(&p)[which]
				m.Cells = append(m.Cells, make([]int, 4096)...)[:count]
				want := api.ErrRange
				if count == n*n {
					want = api.OK
				}
				checks(t, fmt.Sprintf("matrix %d of %d places with %d cells", which, n, count), p, want)
			}
		}
	}
}

// TestCheckEachCell: each cell, at both bounds and outside of them; from a place to itself nothing but 0.
func TestCheckEachCell(t *testing.T) {
	for which := range 2 {
		for _, n := range []int{1, 2, 3, 7, 32} {
			p := sample(kind{n, 0, 0, 0, 0})
			m := matrices(&p)[which]
			for at, was := range m.Cells {
				for _, cell := range append(outside(-1, 32000000), -1, 0, 1, 2, 1000000, 1000001, 31999999, 32000000) {
					m.Cells[at] = cell
					want := api.OK
					if cell < -1 || cell > 32000000 || at/n == at%n && cell != 0 {
						want = api.ErrRange
					}
					checks(t, fmt.Sprintf("matrix %d of %d places: cell %d: %d", which, n, at, cell), p, want)
				}
				m.Cells[at] = was
			}
		}
	}
}

// TestCheckOneWay: a matrix may be one of places between which no way leads, or only one way, or the longest ways.
func TestCheckOneWay(t *testing.T) {
	for _, cell := range []int{-1, 0, 32000000} {
		m := api.Matrix{N: 32, Cells: make([]int, 1024)}
		for i := range m.Cells {
			if i/32 != i%32 {
				m.Cells[i] = cell
			}
		}
		checks(t, fmt.Sprint("all ", cell), api.Problem{Time: m, Dist: m}, api.OK)
		checks(t, fmt.Sprint("all times ", cell), api.Problem{Time: m, Dist: table(32, 3)}, api.OK)
	}
}

// TestCheckHowMany: of vehicles, and of jobs and shipments together.
func TestCheckHowMany(t *testing.T) {
	for vehicles := range 8 {
		for jobs := range 16 {
			for shipments := range 16 {
				want := api.OK
				if vehicles > 4 || jobs+shipments > 12 {
					want = api.ErrMany
				}
				k := kind{3, 1, vehicles, jobs, shipments}
				checks(t, fmt.Sprint(k), sample(k), want)
			}
		}
	}
	p := sample(kind{3, 1, 0, 0, 0})
	for _, n := range []int{256, 257, 1 << 16, 1<<16 + 1} {
		q := p
		q.Vehicles = make([]api.Vehicle, n)
		checks(t, fmt.Sprint(n, " vehicles"), q, api.ErrMany)
		q = p
		q.Jobs = make([]api.Job, n)
		checks(t, fmt.Sprint(n, " jobs"), q, api.ErrMany)
		q = p
		q.Shipments = make([]api.Shipment, n)
		checks(t, fmt.Sprint(n, " shipments"), q, api.ErrMany)
	}
}

// TestCheckEachNumber: each number of each vehicle, break, job, shipment and stop, at both bounds and outside of them, nothing else being wrong.
func TestCheckEachNumber(t *testing.T) {
	for _, k := range kinds() {
		p := sample(k)
		for _, f := range numbers(&p) {
			was := *f.at
			for _, n := range []int{f.least, f.most, min(f.least+1, f.most), max(f.most-1, f.least)} {
				*f.at = n
				checks(t, fmt.Sprintf("%v: %s: %d", k, f.name, n), p, api.OK)
			}
			for _, n := range outside(f.least, f.most) {
				*f.at = n
				checks(t, fmt.Sprintf("%v: %s: %d", k, f.name, n), p, api.ErrRange)
			}
			*f.at = was
		}
		checks(t, fmt.Sprint(k, " again"), p, api.OK)
	}
}

// TestCheckAllAtBounds: a problem of whose numbers each is the least, or the greatest, that may be.
func TestCheckAllAtBounds(t *testing.T) {
	for _, k := range kinds() {
		p := sample(k)
		for _, f := range numbers(&p) {
			*f.at = f.least
		}
		// A window's ends were moved apart from each other.
		for _, l := range windowLists(&p) {
			*l = spans(0, 0, 1, 1, 2, 2, 3, 3)
		}
		for i := range p.Vehicles {
			p.Vehicles[i].Shift = api.Window{From: 0, To: 0}
		}
		checks(t, fmt.Sprint(k, " all least"), p, api.OK)
		p = sample(k)
		for _, f := range numbers(&p) {
			*f.at = f.most
		}
		for _, l := range windowLists(&p) {
			*l = spans(0, 0, 999999, 999999, 1000000, 1000000)
		}
		for i := range p.Vehicles {
			p.Vehicles[i].Shift = api.Window{From: 1000000, To: 1000000}
		}
		for _, s := range skillSets(&p) {
			*s = 1<<62 - 1
		}
		checks(t, fmt.Sprint(k, " all greatest"), p, api.OK)
	}
}

// TestCheckAmounts: each list of amounts with fewer and with more of them.
func TestCheckAmounts(t *testing.T) {
	for _, k := range kinds() {
		p := sample(k)
		for i, l := range amountLists(&p) {
			was := *l
			for n := range 6 {
				*l = make([]int, n)
				want := api.ErrRange
				if n == k.dims {
					want = api.OK
				}
				checks(t, fmt.Sprintf("%v: amounts %d: %d of them", k, i, n), p, want)
			}
			*l = nil
			want := api.ErrRange
			if k.dims == 0 {
				want = api.OK
			}
			checks(t, fmt.Sprintf("%v: amounts %d: nil", k, i), p, want)
			*l = was
		}
	}
}

// TestCheckSkills: each set of skills with each bit.
func TestCheckSkills(t *testing.T) {
	for _, k := range kinds() {
		p := sample(k)
		for i, set := range skillSets(&p) {
			was := *set
			for bit := range 64 {
				want := api.OK
				if bit >= 62 {
					want = api.ErrRange
				}
				for _, more := range []uint64{0, 9, 1<<62 - 1} {
					*set = 1<<bit | more
					checks(t, fmt.Sprintf("%v: set %d: %x", k, i, *set), p, want)
				}
			}
			for _, all := range []uint64{3 << 62, math.MaxUint64} {
				*set = all
				checks(t, fmt.Sprintf("%v: set %d: %x", k, i, *set), p, api.ErrRange)
			}
			*set = 0
			checks(t, fmt.Sprintf("%v: set %d empty", k, i), p, api.OK)
			*set = was
		}
	}
}

// TestCheckWindows: each list of windows: as many as may be, none, too many, and wrong ones at each place.
func TestCheckWindows(t *testing.T) {
	right := [][]api.Window{spans(0, 0), spans(0, 1000000), spans(1000000, 1000000), spans(5, 9, 10, 12), spans(0, 0, 1, 1, 2, 2, 3, 3), spans(5, 9, 20, 30, 40, 50, 60, 1000000)}
	wrong := [][]api.Window{
		nil, {}, spans(0, 0, 2, 2, 4, 4, 6, 6, 8, 8), make([]api.Window, 300),
		spans(9, 5), spans(-1, 5), spans(0, 1000001), spans(5, 9, 9, 12), spans(5, 9, 5, 9), spans(20, 30, 5, 9),
		spans(5, 9, 20, 30, 30, 40), spans(5, 9, 20, 30, 40, 50, 50, 60), spans(5, 9, 20, 30, 40, 50, 60, 1000001), spans(5, 9, 20, 30, 40, 39), spans(math.MinInt, math.MaxInt),
	}
	for _, k := range kinds() {
		p := sample(k)
		for i, l := range windowLists(&p) {
			was := *l
			for _, w := range right {
				*l = w
				checks(t, fmt.Sprintf("%v: windows %d: %v", k, i, w), p, api.OK)
			}
			for _, w := range wrong {
				*l = w
				checks(t, fmt.Sprintf("%v: windows %d: %v", k, i, w[:min(len(w), 6)]), p, api.ErrRange)
			}
			*l = was
		}
	}
}

// TestCheckShift: a shift of every two numbers around the bounds.
func TestCheckShift(t *testing.T) {
	edges := []int{math.MinInt, -1000000, -1, 0, 1, 500000, 999999, 1000000, 1000001, math.MaxInt}
	for vehicle := range 4 {
		p := sample(kind{3, 1, 4, 1, 1})
		for _, from := range edges {
			for _, to := range edges {
				p.Vehicles[vehicle].Shift = api.Window{From: from, To: to}
				want := api.ErrRange
				if 0 <= from && from <= to && to <= 1000000 {
					want = api.OK
				}
				checks(t, fmt.Sprintf("vehicle %d: Shift %d to %d", vehicle, from, to), p, want)
			}
		}
	}
}

// TestCheckBreaks: each vehicle with none up to more breaks than there may be.
func TestCheckBreaks(t *testing.T) {
	for vehicle := range 4 {
		for n := range 6 {
			p := sample(kind{3, 1, 4, 1, 1})
			p.Vehicles[vehicle].Breaks = nil
			for range n {
				p.Vehicles[vehicle].Breaks = append(p.Vehicles[vehicle].Breaks, api.Break{Windows: spans(5, 9), Service: 3})
			}
			want := api.OK
			if n > 2 {
				want = api.ErrRange
			}
			checks(t, fmt.Sprintf("vehicle %d with %d breaks", vehicle, n), p, want)
		}
	}
}
