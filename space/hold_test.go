package space

import (
	"math"
	"slices"
	"testing"

	"icehouse/api"
)

// wrong are extents that aren't right for a map of n sectors.
func wrong(n int) []api.Extent {
	l := []api.Extent{{}, x(0, n+1), x(1, n), x(n-1, 2), x(n, 0), x(n, 1), x(n+1, 1), x(-1, 1), x(-1, 2), x(-1, n+1), x(1, -1), x(n-1, -1), x(2, 0)}
	for _, far := range []int{math.MinInt, math.MinInt + 1, -1 << 32, 1 << 32, math.MaxInt - 1, math.MaxInt} {
		l = append(l, x(far, 1), x(far, n), x(0, far), x(1, far), x(n-1, far), x(far, far), x(far, math.MaxInt), x(far, math.MinInt))
	}
	return l
}

// Of P16.3.
func TestHold(t *testing.T) {
	m := made(t, 10)
	wantHold(t, m, true, x(2, 3))
	wantHold(t, m, true, x(9, 1), x(0, 1))
	wantMap(t, m, 0, x(1, 1), x(5, 4))
	// In any order, side by side.
	wantHold(t, m, true, x(7, 1), x(1, 1), x(5, 2), x(8, 1))
	wantMap(t, m, 0)
	// Not anew.
	m.Abort()
	wantMap(t, m, 0)
	m = made(t, api.MaxDevice)
	wantHold(t, m, true, x(0, api.MaxDevice))
	wantMap(t, m, 0)
}

// Of P16.3: none at all are all right.
func TestNoExtents(t *testing.T) {
	m := made(t, 3)
	wantTake(t, m, 1, x(0, 1))
	for range 2 {
		wantHold(t, m, true)
		wantGive(t, m, true)
		wantHold(t, m, true, []api.Extent{}...)
		wantGive(t, m, true, []api.Extent{}...)
		wantMap(t, m, 0, x(1, 2))
	}
}

// Of P16.3: with one that is wrong nothing is held, wherever it stands.
func TestWrongHold(t *testing.T) {
	m := made(t, 10)
	wantHold(t, m, true, x(3, 1))
	wantTake(t, m, 1, x(0, 1))
	wantHold(t, m, true, x(5, 1))
	wantGive(t, m, true, x(5, 1))
	bad := wrong(10)
	// Taken, taken anew, waiting ones.
	bad = append(bad, x(3, 1), x(2, 2), x(3, 2), x(0, 1), x(0, 2), x(5, 1), x(4, 2), x(5, 3), x(0, 10))
	// In two of them: with these that are right.
	bad = append(bad, x(1, 1), x(1, 2), x(6, 4), x(7, 1), x(8, 2), x(9, 1))
	for _, e := range bad {
		for _, es := range [][]api.Extent{{e, x(1, 2), x(6, 4)}, {x(1, 2), e, x(6, 4)}, {x(6, 4), x(1, 2), e}, {e, e}} {
			wantHold(t, m, false, es...)
			wantMap(t, m, 1, x(1, 2), x(4, 1), x(6, 4))
		}
	}
	wantHold(t, m, true, x(6, 4), x(1, 2))
	wantMap(t, m, 1, x(4, 1))
}

// Of P16.3: given is what was taken anew, or taken, in parts or together.
func TestGive(t *testing.T) {
	m := made(t, 10)
	wantTake(t, m, 4, x(0, 4))
	wantHold(t, m, true, x(4, 3))
	wantGive(t, m, true, x(1, 1))
	wantMap(t, m, 1, x(7, 3))
	// Over the end of what was taken at once, in any order.
	wantGive(t, m, true, x(6, 1), x(3, 2))
	wantMap(t, m, 4, x(7, 3))
	// What waits can't be taken, nor held.
	wantTake(t, m, 4, x(0, 0))
	wantHold(t, m, false, x(3, 1))
	wantPieces(t, m, 4, 9)
	wantGive(t, m, true, x(0, 1), x(2, 1), x(5, 1))
	wantMap(t, m, 7, x(7, 3))
	m.Commit()
	wantMap(t, m, 0, x(0, 10))
}

// Of P16.3: with one that is wrong nothing waits, wherever it stands.
func TestWrongGive(t *testing.T) {
	m := made(t, 10)
	wantHold(t, m, true, x(1, 2), x(6, 1), x(5, 1))
	wantTake(t, m, 3, x(7, 3))
	wantGive(t, m, true, x(5, 1))
	bad := wrong(10)
	// Free and waiting ones.
	bad = append(bad, x(0, 1), x(0, 2), x(2, 2), x(3, 1), x(4, 1), x(4, 2), x(5, 1), x(5, 2), x(0, 10))
	// In two of them: with these that are right.
	bad = append(bad, x(1, 1), x(2, 1), x(1, 2), x(6, 4), x(7, 1), x(8, 2), x(9, 1))
	for _, e := range bad {
		for _, es := range [][]api.Extent{{e, x(1, 2), x(6, 4)}, {x(1, 2), e, x(6, 4)}, {x(6, 4), x(1, 2), e}, {e, e}} {
			wantGive(t, m, false, es...)
			wantMap(t, m, 1, x(0, 1), x(3, 2))
		}
	}
	wantGive(t, m, true, x(6, 4), x(1, 2))
	wantMap(t, m, 7, x(0, 1), x(3, 2))
}

// Of P16.3: extents that lie over one another are refused soon, however many sectors they have in all.
func TestManyOverlap(t *testing.T) {
	m := made(t, api.MaxDevice)
	es := slices.Repeat([]api.Extent{x(0, api.MaxDevice)}, 300000)
	wantHold(t, m, false, es...)
	wantMap(t, m, 0, x(0, api.MaxDevice))
	wantHold(t, m, true, es[0])
	wantGive(t, m, false, es...)
	wantMap(t, m, 0)
	wantGive(t, m, true, es[0])
	wantMap(t, m, api.MaxDevice)
}

// each is a map of 8 sectors: two free; two taken; two taken anew; one that waits, and one that was taken anew, too.
func each(t *testing.T) *Map {
	t.Helper()
	m := made(t, 8)
	wantHold(t, m, true, x(2, 2), x(6, 1))
	wantPieces(t, m, 2, 1, x(0, 2))
	wantGive(t, m, true, x(0, 2))
	m.Commit()
	wantHold(t, m, true, x(0, 2))
	wantPieces(t, m, 3, 2, x(4, 2), x(7, 1))
	wantGive(t, m, true, x(7, 1), x(6, 1), x(0, 2))
	wantMap(t, m, 4)
	return m
}

// Of P16.4: what waits is free, whether it was taken anew or not.
func TestCommit(t *testing.T) {
	m := each(t)
	m.Commit()
	wantMap(t, m, 0, x(0, 2), x(6, 2))
	// Nothing counts as taken anew any more.
	m.Abort()
	wantMap(t, m, 0, x(0, 2), x(6, 2))
	wantGive(t, m, true, x(2, 4))
	m.Abort()
	wantMap(t, m, 0, x(0, 2), x(6, 2))
	wantGive(t, m, true, x(2, 4))
	m.Commit()
	wantMap(t, m, 0, x(0, 8))
}

// Of P16.4: what was taken anew is free, whether it waits or not; what waits else is taken again.
func TestAbort(t *testing.T) {
	m := each(t)
	m.Abort()
	wantMap(t, m, 0, x(4, 2), x(7, 1))
	// Neither waits, nor is anew.
	m.Commit()
	wantMap(t, m, 0, x(4, 2), x(7, 1))
	m.Abort()
	wantMap(t, m, 0, x(4, 2), x(7, 1))
	wantGive(t, m, true, x(0, 4), x(6, 1))
	m.Commit()
	wantMap(t, m, 0, x(0, 8))
}

// Of P16.4: where nothing waits, and nothing is anew.
func TestNothingToDo(t *testing.T) {
	m := made(t, 6)
	for range 2 {
		m.Commit()
		wantMap(t, m, 0, x(0, 6))
		m.Abort()
		wantMap(t, m, 0, x(0, 6))
	}
	wantHold(t, m, true, x(2, 2))
	for range 2 {
		m.Commit()
		m.Abort()
		wantMap(t, m, 0, x(0, 2), x(4, 2))
	}
}

// Of P16.4: what counted as anew ahead of a Commit or Abort doesn't, when it is taken once more, but as it is taken then.
func TestAnewOnceMore(t *testing.T) {
	for _, end := range []func(*Map){(*Map).Commit, (*Map).Abort} {
		m := made(t, 4)
		wantTake(t, m, 4, x(0, 4))
		wantGive(t, m, true, x(0, 4))
		end(m)
		wantMap(t, m, 0, x(0, 4))
		wantHold(t, m, true, x(0, 2))
		wantTake(t, m, 1, x(2, 1))
		wantGive(t, m, true, x(0, 1), x(2, 1))
		m.Abort()
		wantMap(t, m, 0, x(2, 2))
	}
}
