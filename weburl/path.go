package weburl

import (
	"strings"

	"transept/percent"
)

// parsePath is the path whose text, without the slash at its beginning, is s.
func parsePath(s string) string {
	parts := strings.Split(s, "/")
	last := len(parts) - 1
	put := []string{}
	for at, part := range parts {
		switch dots(part) {
		case 2:
			put = put[:max(len(put)-1, 0)]
			fallthrough
		case 1:
			if at == last {
				put = append(put, "")
			}
		default:
			put = append(put, percent.Encode(percent.Path, part))
		}
	}
	return "/" + strings.Join(put, "/")
}

// dots is how many dots a part of a path is, if it is one or two; else 0.
func dots(part string) int {
	switch strings.ReplaceAll(strings.ReplaceAll(part, "%2e", "."), "%2E", ".") {
	case ".":
		return 1
	case "..":
		return 2
	}
	return 0
}
