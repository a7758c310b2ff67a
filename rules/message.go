package rules

import (
	"slices"
	"strings"

	"icehouse/api"
	"icehouse/control"
	"icehouse/date"
	"icehouse/field"
	"icehouse/fresh"
	"icehouse/octet"
	"icehouse/vary"
)

// message is one, with what it says.
type message struct {
	api.Message
	api.Control
}

func messageOf(m api.Message) message {
	x := message{Message: m, Control: control.Parse(field.Get(m.Fields, "cache-control")...)}
	if m.Status == 0 && !x.has("cache-control") && slices.ContainsFunc(x.pieces("pragma"), isNoCache) {
		x.NoCache = true
	}
	return x
}

func isNoCache(piece string) bool {
	return octet.Lower(piece) == "no-cache"
}

// has: is there a field of one of some names?
func (m message) has(names ...string) bool {
	return slices.ContainsFunc(names, func(name string) bool { return len(field.Get(m.Fields, name)) > 0 })
}

// pieces are those of the values of all fields of a name.
func (m message) pieces(name string) []string {
	return octet.Split(field.Get(m.Fields, name)...)
}

// moment is that of the only field of a name, if there is one.
func (m message) moment(name string) (int, bool) {
	value, ok := field.One(m.Fields, name)
	if !ok {
		return 0, false
	}
	at, e := date.Parse(value)
	return at, e == api.OK
}

// tag is how a response's body is told from others of its URI, if it is.
func (m message) tag() (string, bool) {
	return field.One(m.Fields, "etag")
}

// tagged: has it a tag, and is that alike another one?
func (m message) tagged(other string) bool {
	tag, ok := m.tag()
	return ok && strings.TrimPrefix(tag, "W/") == strings.TrimPrefix(other, "W/")
}

// changed is the text of when a response was changed, if there is one.
func (m message) changed() (string, bool) {
	return field.One(m.Fields, "last-modified")
}

// shared: does it say that it may be told to others than the one who asked with an authorization?
func (m message) shared() bool {
	return m.Public || m.Must || m.SMaxAge >= 0
}

// tellsApart: can it be told for which requests it is?
func (m message) tellsApart() bool {
	_, ok := vary.Names(field.Get(m.Fields, "vary")...)
	return ok
}

// lasts: is it of a kind that may be kept for some time?
func (m message) lasts() bool {
	_, said := fresh.Lifetime(m.Message, api.Times{})
	return said || m.Public || fresh.Heuristic(m.Status)
}
