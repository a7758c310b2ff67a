package space

import (
	"math"
	"slices"
	"testing"

	"icehouse/api"
)

func x(at, n int) api.Extent { return api.Extent{At: at, N: n} }

func made(t *testing.T, n int) *Map {
	t.Helper()
	m, e := New(n)
	if m == nil || e != api.OK {
		t.Fatalf("New(%d) is %v, %d", n, m, e)
	}
	return m
}

// wantMap: so many wait, and these are the runs.
func wantMap(t *testing.T, m *Map, waiting int, runs ...api.Extent) {
	t.Helper()
	free := 0
	for _, e := range runs {
		free += e.N
	}
	if m.Free() != free || m.Waiting() != waiting || !slices.Equal(m.Runs(), runs) {
		t.Fatalf("Free %d, Waiting %d, Runs %v, not %d, %d, %v", m.Free(), m.Waiting(), m.Runs(), free, waiting, runs)
	}
}

// wantTake: Take answers this; nothing, if it is no extent.
func wantTake(t *testing.T, m *Map, n int, want api.Extent) {
	t.Helper()
	if e, ok := m.Take(n); e != want || ok != (want.N > 0) {
		t.Fatalf("Take(%d) is %v, %v, not %v", n, e, ok, want)
	}
}

// wantPieces: Pieces answers these; nothing, if there are none.
func wantPieces(t *testing.T, m *Map, n, most int, want ...api.Extent) {
	t.Helper()
	es, ok := m.Pieces(n, most)
	if !slices.Equal(es, want) || ok != (len(want) > 0) || !ok && len(es) > 0 {
		t.Fatalf("Pieces(%d, %d) is %v, %v, not %v", n, most, es, ok, want)
	}
}

func wantHold(t *testing.T, m *Map, want bool, es ...api.Extent) {
	t.Helper()
	if m.Hold(es...) != want {
		t.Fatalf("Hold%v isn't %v", es, want)
	}
}

func wantGive(t *testing.T, m *Map, want bool, es ...api.Extent) {
	t.Helper()
	if m.Give(es...) != want {
		t.Fatalf("Give%v isn't %v", es, want)
	}
}

// Of P16.1 to P16.4: the chapter's example.
func TestExample(t *testing.T) {
	m := made(t, 10)
	wantTake(t, m, 4, x(0, 4))
	wantTake(t, m, 4, x(4, 4))
	wantGive(t, m, true, x(0, 4))
	wantTake(t, m, 3, x(0, 0))
	m.Commit()
	wantPieces(t, m, 6, 2, x(0, 4), x(8, 2))
	wantMap(t, m, 0)
}

// Of P16.1.
func TestNew(t *testing.T) {
	for _, n := range []int{0, -1, -65536, math.MinInt, api.MaxDevice + 1, 2 * api.MaxDevice, 1 << 32, 1<<32 + 1, math.MaxInt} {
		if m, e := New(n); m != nil || e != api.ErrArg {
			t.Errorf("New(%d) is %v, %d", n, m, e)
		}
	}
	for _, n := range []int{1, 2, 3, 64, 1000, api.MaxDevice - 1, api.MaxDevice} {
		wantMap(t, made(t, n), 0, x(0, n))
	}
}

// Of P16.1: maps are apart.
func TestTwoMaps(t *testing.T) {
	a, b := made(t, 5), made(t, 5)
	wantTake(t, a, 2, x(0, 2))
	wantGive(t, a, true, x(0, 1))
	wantMap(t, b, 0, x(0, 5))
	wantTake(t, b, 3, x(0, 3))
	wantMap(t, a, 1, x(2, 3))
}

// Of P16.1: a run has as many as there are so; what waits is none of it.
func TestRuns(t *testing.T) {
	m := made(t, 12)
	wantHold(t, m, true, x(0, 1), x(3, 2), x(6, 1), x(11, 1))
	wantMap(t, m, 0, x(1, 2), x(5, 1), x(7, 4))
	wantGive(t, m, true, x(4, 1), x(0, 1))
	wantMap(t, m, 2, x(1, 2), x(5, 1), x(7, 4))
	m.Commit()
	wantMap(t, m, 0, x(0, 3), x(4, 2), x(7, 4))
	wantHold(t, m, true, x(0, 3), x(4, 2), x(7, 4))
	wantMap(t, m, 0)
	wantGive(t, m, true, x(0, 12))
	wantMap(t, m, 12)
	m.Commit()
	wantMap(t, m, 0, x(0, 12))
}

// Of P16.2: the first run that has so many, not the one that fits best.
func TestTake(t *testing.T) {
	m := made(t, 20)
	wantHold(t, m, true, x(2, 1), x(6, 1), x(10, 1), x(12, 1))
	wantMap(t, m, 0, x(0, 2), x(3, 3), x(7, 3), x(11, 1), x(13, 7))
	wantTake(t, m, 3, x(3, 3))
	wantTake(t, m, 3, x(7, 3))
	wantTake(t, m, 1, x(0, 1))
	wantTake(t, m, 2, x(13, 2))
	wantTake(t, m, 6, x(0, 0))
	wantTake(t, m, 5, x(15, 5))
	wantTake(t, m, 2, x(0, 0))
	wantMap(t, m, 0, x(1, 1), x(11, 1))
	wantTake(t, m, 1, x(1, 1))
	wantTake(t, m, 1, x(11, 1))
	wantTake(t, m, 1, x(0, 0))
	wantMap(t, m, 0)
}

// Of P16.2.
func TestTakeAll(t *testing.T) {
	for _, n := range []int{1, 2, 7, api.MaxDevice} {
		m := made(t, n)
		wantTake(t, m, n+1, x(0, 0))
		wantTake(t, m, n, x(0, n))
		wantTake(t, m, 1, x(0, 0))
		wantMap(t, m, 0)
	}
}

// Of P16.2: of wrong numbers nothing is taken.
func TestWrongTake(t *testing.T) {
	m := made(t, 9)
	wantHold(t, m, true, x(4, 1))
	for _, n := range []int{0, -1, -9, math.MinInt, 5, 8, 9, 10, 1 << 32, 1<<32 + 1, math.MaxInt} {
		wantTake(t, m, n, x(0, 0))
		wantMap(t, m, 0, x(0, 4), x(5, 4))
	}
	wantTake(t, m, 4, x(0, 4))
}

// holed is a map of 20 sectors with runs of 2, 3, 1 and 4.
func holed(t *testing.T) *Map {
	t.Helper()
	m := made(t, 20)
	wantHold(t, m, true, x(0, 1), x(3, 2), x(8, 3), x(12, 4))
	wantMap(t, m, 0, x(1, 2), x(5, 3), x(11, 1), x(16, 4))
	return m
}

// Of P16.2: the first ones there are; each extent as long as its run, but the last one.
func TestPieces(t *testing.T) {
	runs := []api.Extent{x(1, 2), x(5, 3), x(11, 1), x(16, 4)}
	for _, c := range []struct {
		n    int
		want []api.Extent
		rest []api.Extent
	}{
		{1, []api.Extent{x(1, 1)}, []api.Extent{x(2, 1), x(5, 3), x(11, 1), x(16, 4)}},
		{2, []api.Extent{x(1, 2)}, runs[1:]},
		{3, []api.Extent{x(1, 2), x(5, 1)}, []api.Extent{x(6, 2), x(11, 1), x(16, 4)}},
		{4, []api.Extent{x(1, 2), x(5, 2)}, []api.Extent{x(7, 1), x(11, 1), x(16, 4)}},
		{5, runs[:2], runs[2:]},
		{6, runs[:3], runs[3:]},
		{7, []api.Extent{x(1, 2), x(5, 3), x(11, 1), x(16, 1)}, []api.Extent{x(17, 3)}},
		{9, []api.Extent{x(1, 2), x(5, 3), x(11, 1), x(16, 3)}, []api.Extent{x(19, 1)}},
		{10, runs, nil},
	} {
		for most := range len(c.want) {
			m := holed(t)
			wantPieces(t, m, c.n, most)
			wantMap(t, m, 0, runs...)
		}
		for _, most := range []int{len(c.want), len(c.want) + 1, 20, math.MaxInt} {
			m := holed(t)
			wantPieces(t, m, c.n, most, c.want...)
			wantMap(t, m, 0, c.rest...)
		}
	}
}

// Of P16.2: of wrong numbers nothing is taken.
func TestWrongPieces(t *testing.T) {
	m := holed(t)
	mosts := []int{0, -1, 1, 4, 20, math.MinInt, math.MaxInt}
	for _, most := range mosts {
		for _, n := range []int{0, -1, -20, math.MinInt, 11, 12, 20, 21, 1 << 32, 1<<32 + 1, math.MaxInt} {
			wantPieces(t, m, n, most)
		}
	}
	for _, most := range []int{0, -1, math.MinInt} {
		for _, n := range []int{1, 2, 10} {
			wantPieces(t, m, n, most)
		}
	}
	wantMap(t, m, 0, x(1, 2), x(5, 3), x(11, 1), x(16, 4))
	wantPieces(t, m, 10, 4, x(1, 2), x(5, 3), x(11, 1), x(16, 4))
	for _, most := range mosts {
		wantPieces(t, m, 1, most)
	}
}

// Of P16.2: on the greatest map, with as many runs as there can be.
func TestManyPieces(t *testing.T) {
	m := made(t, api.MaxDevice)
	var odd, even []api.Extent
	for at := 0; at < api.MaxDevice; at += 2 {
		even, odd = append(even, x(at, 1)), append(odd, x(at+1, 1))
	}
	wantHold(t, m, true, odd...)
	wantMap(t, m, 0, even...)
	wantTake(t, m, 2, x(0, 0))
	wantPieces(t, m, len(even)+1, math.MaxInt)
	wantPieces(t, m, len(even), len(even)-1)
	wantPieces(t, m, len(even), len(even), even...)
	wantGive(t, m, true, odd...)
	wantMap(t, m, len(odd))
	m.Abort()
	wantMap(t, m, 0, even...)
}
