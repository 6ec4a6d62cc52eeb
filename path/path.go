// Package path joins, cleans and relates slash-separated paths. It is layer 1: see shared/doc/01-path.md.
package path

import (
	"bytes"
	"slices"
	"strings"

	"flatiron/api"
)

// Root is the path without parts.
const Root = "."

// Join returns the path to which the parts of the strings lead, one string after the other, from the root; ErrPath if one of them leads out of it.
func Join(l ...string) (string, api.Errno) {
	var p []byte
	for _, s := range l {
		var ok bool
		if p, ok = follow(p, s); !ok {
			return "", api.ErrPath
		}
	}
	if len(p) == 0 {
		return Root, api.OK
	}
	return string(p), api.OK
}

// follow returns p with the parts of s behind it; false if they lead out of the root. Here the root is empty, so that a part can be appended and cut off without a look at the others.
func follow(p []byte, s string) ([]byte, bool) {
	for part := range strings.SplitSeq(s, "/") {
		switch part {
		case "", ".":
		case "..":
			if len(p) == 0 {
				return nil, false
			}
			p = p[:max(bytes.LastIndexByte(p, '/'), 0)]
		default:
			if len(p) > 0 {
				p = append(p, '/')
			}
			p = append(p, part...)
		}
	}
	return p, true
}

// Clean reports whether s is the path that Join of it returns.
func Clean(s string) bool {
	p, code := Join(s)
	return code == api.OK && p == s
}

// Dir returns the path p without its last part; for the root, the root.
func Dir(p string) string {
	if i := strings.LastIndexByte(p, '/'); i >= 0 {
		return p[:i]
	}
	return Root
}

// Base returns the last part of the path p; for the root, the root.
func Base(p string) string {
	return p[strings.LastIndexByte(p, '/')+1:]
}

// In reports whether the path p is in the path dir, or equal to it.
func In(p, dir string) bool {
	if dir == Root {
		return true
	}
	rest, ok := strings.CutPrefix(p, dir)
	return ok && (rest == "" || rest[0] == '/') // ab begins with a, and isn't in it
}

// To returns how the path dir leads to the path p: Join of dir and that is p.
func To(p, dir string) string {
	to, from := parts(p), parts(dir)
	n := 0
	for n < len(to) && n < len(from) && to[n] == from[n] {
		n++
	}
	l := append(slices.Repeat([]string{".."}, len(from)-n), to[n:]...)
	if len(l) == 0 {
		return Root
	}
	return strings.Join(l, "/")
}

// parts returns the parts of the path p; the root has none.
func parts(p string) []string {
	if p == Root {
		return nil
	}
	return strings.Split(p, "/")
}
