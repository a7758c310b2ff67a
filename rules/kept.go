package rules

import (
	"bytes"
	"strings"

	"icehouse/api"
	"icehouse/field"
	"icehouse/octet"
)

// Pass are fields without those of a hop.
func Pass(fs []api.Field) []api.Field {
	return field.Without(fs, hop(fs)...)
}

// Kept is a response as it is kept.
func Kept(resp api.Message) api.Message {
	return withFields(resp, lasting(resp.Fields))
}

// Update is what is kept, with what a response says anew.
func Update(kept, resp api.Message) api.Message {
	// The body stays as it was kept, so what tells of it does.
	anew := field.Without(lasting(resp.Fields), "content-encoding", "content-range", "content-type", "etag")
	var names []string
	for _, f := range anew {
		names = append(names, f.Name)
	}
	return withFields(kept, append(field.Without(kept.Fields, names...), anew...))
}

// hop are the names of a hop's fields, those that connection names among them.
func hop(fs []api.Field) []string {
	names := octet.Split(field.Get(fs, "connection")...)
	return append(names, "connection", "keep-alive", "proxy-authenticate", "proxy-authorization", "proxy-connection", "te", "trailer", "transfer-encoding", "upgrade")
}

// lasting are the fields of a response that are kept.
func lasting(fs []api.Field) []api.Field {
	return field.Without(Pass(fs), "content-length")
}

// withFields is a message with other fields; all else is copies.
func withFields(m api.Message, fs []api.Field) api.Message {
	return api.Message{
		Start: api.Start{
			Method: strings.Clone(m.Method),
			Target: strings.Clone(m.Target),
			Status: m.Status,
			Reason: strings.Clone(m.Reason),
			Minor:  m.Minor,
		},
		Fields: fs,
		Body:   bytes.Clone(m.Body),
	}
}
