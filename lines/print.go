package lines

import (
	"strconv"
	"strings"

	"truchman/api"
	"truchman/codes"
	"truchman/name"
)

// Print is a reply in print.
func Print(t api.Tell) string {
	return strconv.Itoa(t.Tag) + ":" + strings.Join(parts(t), ",")
}

// parts is what is printed of a reply behind its tag.
func parts(t api.Tell) []string {
	switch t.Type {
	case api.Rerror:
		text := codes.Text(codes.FromCode(t.Code))
		return []string{strings.ReplaceAll(text, " ", "_")}
	case api.Tversion + 1:
		return []string{"version", strconv.Itoa(t.Msize), name.Print(t.Name)}
	case api.Tattach + 1:
		return []string{"attach", printQid(t.Qid)}
	case api.Tflush + 1:
		return []string{"flush"}
	case api.Twalk + 1:
		return walked(t.Qids)
	case api.Topen + 1:
		return []string{"open", printQid(t.Qid)}
	case api.Tcreate + 1:
		return []string{"create", printQid(t.Qid)}
	case api.Tread + 1:
		return []string{"read", name.Print(string(t.Data))}
	case api.Twrite + 1:
		return []string{"write", strconv.Itoa(t.Count)}
	case api.Tclunk + 1:
		return []string{"clunk"}
	case api.Tremove + 1:
		return []string{"remove"}
	case api.Tstat + 1:
		return []string{"stat", name.Print(t.Stat.Name), strconv.Itoa(t.Stat.Mode), strconv.Itoa(t.Stat.Size)}
	case api.Twstat + 1:
		return []string{"wstat"}
	}
	return nil
}

// walked is what is printed of a walk.
func walked(qids []api.Qid) []string {
	l := []string{"walk"}
	for _, q := range qids {
		l = append(l, printQid(q))
	}
	return l
}

func printQid(q api.Qid) string {
	kind := "f"
	if q.Dir {
		kind = "d"
	}
	return kind + strconv.Itoa(q.Path) + "." + strconv.Itoa(q.Version)
}
