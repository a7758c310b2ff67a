package journal

import (
	"bytes"
	"testing"

	"icehouse/api"
	"icehouse/device"
)

// Of P15.4: nothing is done, if all is settled, whatever fails.
func TestNothingToSettle(t *testing.T) {
	d := formatted(t, 10)
	j := opened(t, d, 10, 0, 1)
	for range 2 {
		d.Write(30, filled(1))
		d.Limit(0)
		want(t, "Settle", j.Settle(), api.OK)
		d.Limit(-1)
		if d.Waiting() != 1 {
			t.Errorf("behind a Settle of nothing %d writes wait", d.Waiting())
		}
		d.Flush()
		wantState(t, j, 1, 0)
	}
	wantCommit(t, j, true, api.OK, putOf(20, 1))
	wantState(t, j, 2, 1)
	want(t, "Settle", j.Settle(), api.OK)
	wantState(t, j, 2, 0)
	d.Limit(0)
	want(t, "Settle", j.Settle(), api.OK)
}

// Of P15.4: Flush, all puts, Flush, the next mark, Flush.
func TestSettleCalls(t *testing.T) {
	for _, c := range []struct {
		steps []int
		calls []call
	}{
		{[]int{2}, []call{flushes(), writes(20, filled(0)), writes(21, filled(0)), flushes(), writes(3, markOf(2, 2, 6)), flushes()}},
		{[]int{1, 2}, []call{flushes(), writes(20, filled(0)), writes(20, filled(1)), writes(21, filled(1)), flushes(), writes(3, markOf(2, 3, 9)), flushes()}},
		{[]int{2, 0, 1}, []call{flushes(), writes(20, filled(2)), flushes(), writes(4, markOf(3, 3, 9)), flushes()}},
		{[]int{4, 0, 1, 1}, []call{flushes(), writes(20, filled(2)), writes(20, filled(3)), flushes(), writes(4, markOf(3, 4, 5)), flushes()}},
		{[]int{8}, []call{flushes(), writes(20, filled(0)), writes(21, filled(0)), writes(22, filled(0)), writes(23, filled(0)), writes(24, filled(0)), writes(25, filled(0)), writes(26, filled(0)), writes(27, filled(0)), flushes(), writes(3, markOf(2, 2, 12)), flushes()}},
	} {
		wantCalls(t, func() (*device.Device, func() api.Errno) {
			d, j := placed(t, c.steps...)
			number, owed := j.Number(), j.Owed()
			return d, func() api.Errno {
				e := j.Settle()
				if e == api.OK {
					owed = 0
				}
				wantState(t, j, number, owed)
				return e
			}
		}, c.calls...)
	}
}

// Of P15.4: where a Settle failed, nothing counts as settled: what was done goes on to be there, and is settled by the next one.
func TestSettleFails(t *testing.T) {
	for k := range 9 {
		for _, crash := range []api.Crash{lost(), kept(), {Keep: []bool{false, true}, Torn: -1}, {Torn: 0, Part: 20}, {Keep: []bool{true}, Torn: 1, Part: 60}} {
			for part := range 3 {
				d, j := placed(t, 1, 0, 4, 1)
				d.Fail(k)
				want(t, "Settle", j.Settle(), api.ErrIO)
				wantState(t, j, 4, 2)
				on := []byte{3, 2, 2, 2, 7}
				switch part {
				case 1:
					want(t, "Settle", j.Settle(), api.OK)
					wantState(t, j, 4, 0)
					wantOn(t, d, 20, on...)
				case 2:
					// The place is full: a Commit settles first.
					wantCommit(t, j, true, api.OK, some(2, 23, 9)...)
					wantState(t, j, 5, 1)
					on = []byte{3, 2, 2, 9, 9}
				}
				d.Crash(crash)
				_, _, e := Open(d, 3, 12)
				want(t, "Open", e, api.OK)
				wantOn(t, d, 20, on...)
			}
		}
	}
}

// Of P15.4: a Commit that must settle first, and can't, is false, and has that error.
func TestCommitCantSettle(t *testing.T) {
	for k := range 6 {
		d, j := placed(t, 2, 4)
		d.Limit(k)
		wantCommit(t, j, false, api.ErrPower, putOf(30, 1))
		wantState(t, j, 3, 2)
		d.Limit(-1)
		d.Fail(k)
		wantCommit(t, j, false, api.ErrIO, putOf(30, 1))
		wantState(t, j, 3, 2)
		d.Fail()
		wantCommit(t, j, true, api.OK, putOf(30, 1))
		wantState(t, j, 4, 1)
	}
}

// Of P15.4, P15.5: a mark that was written, and may be there though its Flush failed, isn't written over by one of its own number; torn, that would be another one that counts.
func TestMarkIsNotWrittenOver(t *testing.T) {
	d, j := placed(t, 1, 1)
	d.Fail(5)
	want(t, "Settle", j.Settle(), api.ErrIO)
	wantState(t, j, 3, 2)
	if got := octets(t, d, 3, 1); !bytes.Equal(got, markOf(2, 3, 8)) {
		t.Fatalf("the mark is %x", got)
	}
	d.Fail()
	wantCommit(t, j, true, api.OK, putOf(20, 9))
	want(t, "Settle", j.Settle(), api.OK)
	if got, one := octets(t, d, 3, 1), octets(t, d, 4, 1); !bytes.Equal(got, markOf(2, 3, 8)) || !bytes.Equal(one, markOf(3, 4, 11)) {
		t.Errorf("the marks are %x, %x", got, one)
	}
	// One that wasn't written is the next one still.
	wantCommit(t, j, true, api.OK, putOf(20, 8))
	d.Fail(3)
	want(t, "Settle", j.Settle(), api.ErrIO)
	want(t, "Settle", j.Settle(), api.OK)
	if got, one := octets(t, d, 3, 1), octets(t, d, 4, 1); !bytes.Equal(got, markOf(4, 5, 5)) || !bytes.Equal(one, markOf(3, 4, 11)) {
		t.Errorf("the marks are %x, %x", got, one)
	}
}

// Of P15.4, P15.5: where a mark was written, and its Flush failed, the next Settle may find it there for good: what it writes once more is never an older content of a sector than the mark tells to be there.
func TestSettleAgain(t *testing.T) {
	for k := range 8 {
		d := formatted(t, 12)
		j := opened(t, d, 12, 0, 1)
		wantCommit(t, j, true, api.OK, putOf(20, 1), putOf(21, 1))
		wantCommit(t, j, true, api.OK, putOf(20, 2), putOf(20, 3))
		// Flush, four puts, Flush, the mark; and its Flush.
		d.Fail(7)
		want(t, "Settle", j.Settle(), api.ErrIO)
		d.Limit(k)
		want(t, "Settle", j.Settle(), api.ErrPower)
		wantState(t, j, 3, 2)
		d.Crash(kept())
		opened(t, d, 12, 0, 3)
		wantOn(t, d, 20, 3, 1)
	}
}

// Of P15.4: Number and Owed.
func TestNumberOwed(t *testing.T) {
	d := formatted(t, 37)
	j := opened(t, d, 37, 0, 1)
	for i := range 11 {
		wantCommit(t, j, true, api.OK, putOf(1, byte(i)))
		wantState(t, j, 2+i, 1+i)
	}
	want(t, "Settle", j.Settle(), api.OK)
	wantState(t, j, 12, 0)
	wantCommit(t, j, true, api.OK, putOf(1, 50))
	wantState(t, j, 13, 1)
	wantOn(t, d, 1, 10)
	d.Crash(lost())
	j = opened(t, d, 37, 1, 13)
	wantOn(t, d, 1, 50)
	wantState(t, j, 13, 0)
}
