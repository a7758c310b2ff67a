package fresh

import (
	"icehouse/api"
	"icehouse/control"
	"icehouse/date"
	"icehouse/field"
	"icehouse/octet"
)

// response is a message, when it was asked for and when it came, and what it says; its date.
type response struct {
	api.Message
	api.Times
	api.Control
	date int
}

// responseOf has its times in their bounds.
func responseOf(m api.Message, t api.Times) response {
	t.Asked = within(t.Asked, api.MaxClock)
	t.Got = max(within(t.Got, api.MaxClock), t.Asked)
	r := response{Message: m, Times: t, Control: control.Parse(field.Get(m.Fields, "cache-control")...), date: t.Got}
	if at, ok := r.moment("date"); ok {
		r.date = at
	}
	return r
}

// lifetime is how long it is fresh; is it said?
func (r response) lifetime() (int, bool) {
	switch {
	case r.SMaxAge >= 0:
		return r.SMaxAge, true
	case r.MaxAge >= 0:
		return r.MaxAge, true
	case len(field.Get(r.Fields, "expires")) > 0:
		at, ok := r.moment("expires")
		if !ok {
			return 0, true
		}
		return within(at-r.date, api.MaxDelta), true
	}
	at, ok := r.moment("last-modified")
	if !ok || at > r.date || !Heuristic(r.Status) {
		return 0, false
	}
	return within((r.date-at)/10, api.MaxDelta), false
}

// age is how old it is.
func (r response) age(now int) int {
	now = max(within(now, api.MaxClock), r.Got)
	came := max(r.Got-r.date, r.told()+r.Got-r.Asked)
	return within(came+now-r.Got, api.MaxDelta)
}

// told is the age with which it came.
func (r response) told() int {
	values := field.Get(r.Fields, "age")
	if len(values) == 0 {
		return 0
	}
	n, e := octet.Number(values[0], api.MaxDelta)
	if e == api.ErrLong {
		return api.MaxDelta
	}
	return n
}

// strict: does it say that it isn't to be told, once it isn't fresh?
func (r response) strict() bool {
	return r.Must || r.Proxy || r.SMaxAge >= 0
}

// moment is that of its only field of a name, if there is one.
func (r response) moment(name string) (int, bool) {
	value, ok := field.One(r.Fields, name)
	if !ok {
		return 0, false
	}
	at, e := date.Parse(value)
	return at, e == api.OK
}

// within brings a number into 0 to most.
func within(n, most int) int {
	return min(max(n, 0), most)
}
