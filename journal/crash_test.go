package journal

import (
	"bytes"
	"math/rand"
	"slices"
	"testing"

	"icehouse/api"
	"icehouse/device"
)

// Where the tests of crashes have their journals; all sectors behind are written by transactions.
const (
	from   = 1
	behind = 6
)

// history is what a journal was asked, and what it answered: the puts of those that answered true, and how many of these are sure.
type history struct {
	*testing.T
	d    *device.Device
	j    *Journal
	n    int
	done [][]api.Put
	sure int
}

func newHistory(t *testing.T, n int) *history {
	t.Helper()
	h := &history{T: t, d: made(t, from+n+behind), n: n}
	want(t, "Format", Format(h.d, from, n), api.OK)
	h.open()
	return h
}

// commit puts so many sectors, with contents that tell which transaction they are of.
func (h *history) commit(count, at int, tag byte) {
	h.Helper()
	var puts []api.Put
	for i := range count {
		puts = append(puts, api.Put{At: from + h.n + (at+i)%behind, Body: filled(tag)})
	}
	done, e := h.j.Commit(puts...)
	if done {
		h.done = append(h.done, puts)
	}
	if done && e == api.OK {
		h.sure = len(h.done)
	}
}

func (h *history) settle() {
	if h.j.Settle() == api.OK {
		h.sure = len(h.done)
	}
}

// behindSome is what the sectors have behind the first k transactions.
func (h *history) behindSome(k int) []byte {
	b := make([]byte, behind*64)
	for _, puts := range h.done[:k] {
		for _, p := range puts {
			copy(b[64*(p.At-from-h.n):], p.Body)
		}
	}
	return b
}

// open opens, without faults: what is there must be what a first part of those that were done wrote, with all that were sure.
func (h *history) open() {
	h.Helper()
	j, counted, e := Open(h.d, from, h.n)
	if j == nil || e != api.OK {
		h.Fatalf("Open is %d", e)
	}
	h.adopt(j, counted)
}

// adopt asks whether a journal that was opened is right, and goes on with it.
func (h *history) adopt(j *Journal, counted int) {
	h.Helper()
	is := octets(h.T, h.d, from+h.n, behind)
	// By the contents alone one may not know which part: their tags differ, but for what is written over.
	k := len(h.done)
	for k >= h.sure && !bytes.Equal(is, h.behindSome(k)) {
		k--
	}
	if k < h.sure {
		h.Fatalf("of %d that were done, %d of them sure, %d counted, and there is %x", len(h.done), h.sure, counted, is)
	}
	h.j, h.done, h.sure = j, h.done[:k], k
}

// again opens once more: it is the same.
func (h *history) again() {
	h.Helper()
	is := octets(h.T, h.d, from+h.n, behind)
	number := h.j.Number()
	j, counted, e := Open(h.d, from, h.n)
	if j == nil || counted != 0 || e != api.OK || j.Number() != number {
		h.Fatalf("opened again %d count, %d", counted, e)
	}
	if got := octets(h.T, h.d, from+h.n, behind); !bytes.Equal(got, is) {
		h.Fatalf("opened again there is %x, not %x", got, is)
	}
	h.j = j
}

// story is a list of how many puts each transaction has; 0 settles.
func (h *history) story(l []int, tag byte) {
	h.Helper()
	for i, n := range l {
		if n == 0 {
			h.settle()
		} else {
			h.commit(n, i, tag+byte(i))
		}
	}
}

// crashes are what a crash may leave of n writes that wait: each of them alone, all but each, and some that are torn.
func crashes(n int) []api.Crash {
	l := []api.Crash{lost(), kept()}
	for i := range n {
		one := make([]bool, n)
		one[i] = true
		but := slices.Repeat([]bool{true}, n)
		but[i] = false
		l = append(l, api.Crash{Keep: one, Torn: -1}, api.Crash{Keep: but, Torn: -1})
		for _, part := range []int{1, 8, 9, 17, 21, 57, 63} {
			l = append(l, api.Crash{Torn: i, Part: part}, api.Crash{Keep: but, Torn: i, Part: part}, api.Crash{Keep: slices.Repeat([]bool{true}, i), Torn: i, Part: part})
		}
	}
	return l
}

// stories are of places of 9 sectors: seven for records.
var stories = [][]int{
	{1, 2, 1, 1, 0, 2, 1},
	{5, 1, 5, 2, 1},
	{2, 1, 1, 2, 1, 1, 3, 0, 0, 1},
	{3, 2, 3, 2},
}

// calls is how many calls of the device a story has.
func calls(t *testing.T, l []int) int {
	for limit := 1; ; limit++ {
		h := newHistory(t, 9)
		h.d.Limit(limit)
		h.story(l, 1)
		if _, e := h.d.Read(0, 0); e == api.OK {
			return limit - 1
		}
	}
}

// off is a story's history till the power failed behind so many calls.
func off(t *testing.T, l []int, limit int, fails ...int) *history {
	h := newHistory(t, 9)
	h.d.Fail(fails...)
	h.d.Limit(limit)
	h.story(l, 1)
	return h
}

// Of P15.5: whatever a crash leaves, at whichever call; and what is done behind it holds, too.
func TestCrash(t *testing.T) {
	for _, l := range stories {
		for limit := range calls(t, l) + 1 {
			for _, c := range crashes(off(t, l, limit).d.Waiting()) {
				h := off(t, l, limit)
				h.d.Crash(c)
				h.open()
				h.again()
				h.story([]int{1, 3, 1}, 100)
				h.d.Crash(lost())
				h.open()
				h.again()
			}
		}
	}
}

// Of P15.5: with a further crash at each call of Open, and of what comes behind it.
func TestCrashInOpen(t *testing.T) {
	for _, l := range stories[:2] {
		for limit := range calls(t, l) + 1 {
			for _, c := range []api.Crash{lost(), kept(), {Keep: []bool{false, true, true}, Torn: 0, Part: 9}, {Keep: []bool{true, true}, Torn: 3, Part: 30}} {
				for more := range 24 {
					for _, second := range []api.Crash{lost(), kept(), {Keep: []bool{false, true}, Torn: -1}, {Torn: 0, Part: 19}, {Keep: []bool{true}, Torn: 1, Part: 62}} {
						h := off(t, l, limit)
						h.d.Crash(c)
						h.d.Limit(more)
						if j, counted, e := Open(h.d, from, h.n); e == api.OK {
							h.d.Limit(-1)
							h.adopt(j, counted)
							h.d.Limit(more)
							h.story([]int{2, 1, 1, 0}, 100)
						}
						h.d.Crash(second)
						h.open()
						h.again()
					}
				}
			}
		}
	}
}

// Of P15.5: with each call failing, alone and beside another one, and a crash at some call behind it.
func TestFailuresAndCrash(t *testing.T) {
	for _, l := range stories {
		n := calls(t, l) + 4
		for fails := range n {
			for limit := fails; limit < n; limit++ {
				other := fails + limit%5
				waits := off(t, l, limit, fails, other).d.Waiting()
				for i, c := range crashes(waits) {
					if i > 2 && (i+limit)%9 > 0 {
						continue
					}
					h := off(t, l, limit, fails, other)
					h.d.Crash(c)
					h.open()
					h.again()
				}
			}
		}
	}
}

// anyCrash leaves whatever.
func anyCrash(random *rand.Rand, waits int) api.Crash {
	c := api.Crash{Torn: random.Intn(waits+3) - 2, Part: random.Intn(65)}
	much := random.Intn(5)
	for range waits {
		c.Keep = append(c.Keep, random.Intn(4) < much)
	}
	return c
}

// anyFaults tells that some calls fail, or that the power does.
func anyFaults(random *rand.Rand, d *device.Device) {
	var fails []int
	for range random.Intn(4) {
		fails = append(fails, random.Intn(25))
	}
	d.Fail(fails...)
	d.Limit(random.Intn(40) - 5)
}

// Of P15.5: long stories of commits, failures, crashes, and crashes in what comes behind them.
func TestManyCrashes(t *testing.T) {
	random := rand.New(rand.NewSource(5))
	done := 0
	for range 4000 {
		h := newHistory(t, 5+random.Intn(12))
		for range 12 {
			if random.Intn(3) > 0 {
				anyFaults(random, h.d)
			}
			for range random.Intn(9) {
				if random.Intn(7) == 0 {
					h.settle()
				} else {
					h.commit(1+random.Intn(h.n-4), random.Intn(behind), byte(1+random.Intn(255)))
				}
			}
			done += len(h.done)
			h.d.Crash(anyCrash(random, h.d.Waiting()))
			// Opens that fail, each with a crash behind it.
			for random.Intn(2) == 0 {
				anyFaults(random, h.d)
				Open(h.d, from, h.n)
				h.d.Crash(anyCrash(random, h.d.Waiting()))
			}
			h.open()
			h.again()
		}
	}
	if done < 100000 {
		t.Fatalf("%d were done, or again", done)
	}
}
