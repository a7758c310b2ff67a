package message

import (
	"bytes"
	"strings"

	"icehouse/api"
	"icehouse/chunk"
	"icehouse/field"
	"icehouse/start"
)

// What a reader awaits.
const (
	firstLine = iota
	header
	octets
	chunks
	nothing
)

// Reader takes a message.
type Reader struct {
	progress
	asks   bool // takes a request
	toHead bool // takes a response to HEAD: all other methods are one to it
	fault  api.Errno
}

// progress is how far a reader has come.
type progress struct {
	awaits  int
	message api.Message    // what was taken of it, but its body
	left    int            // octets that are to come of a body of so many
	decoder *chunk.Decoder // of a body in chunks
}

// NewReader is a reader of a request, or of a response to a method.
func NewReader(asks bool, method string) *Reader {
	return &Reader{asks: asks, toHead: method == headMethod}
}

// Take takes octets: the body's, how many were taken. ErrForm, ErrLong, ErrMany.
func (r *Reader) Take(b []byte) ([]byte, int, api.Errno) {
	if r.fault != api.OK {
		return nil, 0, r.fault
	}
	was := r.progress
	body, n, e := r.take(b)
	if e != api.OK {
		// What came ahead of the fault, but with it, isn't taken either.
		r.progress, r.fault = was, e
		return nil, 0, e
	}
	return body, n, api.OK
}

// Head is the message without its body; false: it isn't there.
func (r *Reader) Head() (api.Message, bool) {
	if r.awaits == firstLine || r.awaits == header {
		return api.Message{}, false
	}
	m := r.message
	m.Method, m.Target, m.Reason = strings.Clone(m.Method), strings.Clone(m.Target), strings.Clone(m.Reason)
	m.Fields = field.With(m.Fields)
	return m, true
}

// Done: is all of it taken?
func (r *Reader) Done() bool {
	return r.awaits == nothing
}

// take is Take, but that it may have gone on where it answers an error. ErrForm, ErrLong, ErrMany.
func (r *Reader) take(b []byte) ([]byte, int, api.Errno) {
	n := 0
	if r.awaits == firstLine {
		m, e := r.takeLine(b)
		if e != api.OK {
			return nil, 0, e
		}
		n += m
	}
	if r.awaits == header {
		m, e := r.takeHeader(b[n:])
		if e != api.OK {
			return nil, 0, e
		}
		n += m
	}
	body, m, e := r.takeBody(b[n:])
	return body, n + m, e
}

// takeLine takes the first line, if it is there. ErrForm, ErrLong.
func (r *Reader) takeLine(b []byte) (int, api.Errno) {
	read := start.Response
	if r.asks {
		read = start.Request
	}
	line, n, e := read(b)
	switch e {
	case api.OK:
		r.message.Start, r.awaits = line, header
	case api.ErrMore:
		return 0, api.OK
	}
	return n, e
}

// takeHeader takes the header, if it is there. ErrForm, ErrLong, ErrMany.
func (r *Reader) takeHeader(b []byte) (int, api.Errno) {
	fs, n, e := field.Parse(b)
	switch e {
	case api.OK:
		r.message.Fields = fs
		return n, r.frame()
	case api.ErrMore:
		return 0, api.OK
	}
	return 0, e
}

// frame goes on to the body. ErrForm, ErrLong.
func (r *Reader) frame() api.Errno {
	kind, length, e := framing(r.message, r.toHead)
	if kind == api.Chunked {
		r.awaits, r.decoder = chunks, chunk.New()
	} else {
		// No body is one of no octets.
		r.awaits, r.left = octets, length
	}
	return e
}

// takeBody takes what is there of the body. ErrForm, ErrLong, ErrMany.
func (r *Reader) takeBody(b []byte) ([]byte, int, api.Errno) {
	switch r.awaits {
	case octets:
		b = b[:min(len(b), r.left)]
		r.left -= len(b)
		if r.left == 0 {
			r.awaits = nothing
		}
		return bytes.Clone(b), len(b), api.OK
	case chunks:
		body, n, done, e := r.decoder.Feed(b)
		if done {
			r.awaits = nothing
		}
		return body, n, e
	}
	return nil, 0, api.OK
}
