package rules

import (
	"slices"
	"strings"

	"icehouse/api"
	"icehouse/field"
	"icehouse/target"
)

// Invalidates are the URIs of which nothing that is kept holds any more.
func Invalidates(u api.URI, method string, resp api.Message) []api.URI {
	if safe(method) || resp.Status < 200 || resp.Status > 399 {
		return nil
	}
	all := []api.URI{{Host: strings.Clone(u.Host), Port: u.Port, Path: strings.Clone(u.Path)}}
	for _, name := range []string{"location", "content-location"} {
		v, ok := near(u, resp.Fields, name)
		if ok && !slices.Contains(all, v) {
			all = append(all, v)
		}
	}
	return all
}

// safe: does a method change nothing?
func safe(method string) bool {
	switch method {
	case "GET", "HEAD", "OPTIONS", "TRACE":
		return true
	}
	return false
}

// near is where the only field of a name leads, if there is one, and it leads to the same host and port.
func near(u api.URI, fs []api.Field, name string) (api.URI, bool) {
	ref, ok := field.One(fs, name)
	if !ok {
		return api.URI{}, false
	}
	v, e := target.Resolve(u, ref)
	return v, e == api.OK && v.Host == u.Host && v.Port == u.Port
}
